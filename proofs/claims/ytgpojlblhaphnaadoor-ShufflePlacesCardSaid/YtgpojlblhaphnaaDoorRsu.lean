/- Shuffles: the document's Bits, Step and To. -/
import Derived.Test.YtgpojlblhaphnaaDoorSf
import Derived.Test.YtgpojlblhaphnaaDoorLw
import Derived.Test.YtgpojlblhaphnaaDoorSu
import Derived.Test.YtgpojlblhaphnaaDoorSw
namespace Go.Proofs.YtgpojlblhaphnaaDoor
open Go.RowKit
set_option linter.unusedVariables false
set_option linter.unusedSimpArgs false
def RbAt (n : Nat) (w : World) (i a : Value) (wr : World) : Prop :=
  ∃ m q : Nat, m + q = 21 ∧ m ≤ 10 ∧ i = .int .i64 (m : Int) ∧ a = .int .i64 ((4 ^ m : Nat) : Int) ∧ Da.seekW n q m = Da.bw n ∧ wr = w
set_option maxRecDepth 100000 in
theorem rbits_any (n : Nat) (hn : n ≤ 1048576) (w : World) : Calls Tryd.prog 12 #[.int .i64 (n : Int)] w fun e w' => e = .returned (.int .i64 (Da.bw n : Nat)) ∧ w' = w := by
  go_enter Tryd.func12, Tryd.ntmps12
  go_wp2_with fail
  go_loopw [3, 4] (fun i a wr => RbAt n w i a wr) (fun i _ _ => 21 - (intOf i).toNat)
  case atStart => exact ⟨1, 20, rfl, by decide, rfl, rfl, rfl, rfl⟩
  case round =>
    obtain ⟨m, q, hmq, h10, rfl, rfl, hs, rfl⟩ := hrel
    have hm10 : 4 ^ m < n → m < 10 := fun h => by
      by_cases e : m = 10
      · subst e; omega
      · omega
    have hgo := fun h => Da.seekW_go n q m h (by rw [hmq]; omega)
    have hst := Da.seekW_stop n q m
    have HP : Hid (((4 ^ (m + 1) : Nat) : Int) = ((4 ^ m : Nat) : Int) * 4) := Lib.hid (by rw [Nat.pow_succ]; simp)
    have hb := four_bd h10
    obtain ⟨F, hF⟩ : ∃ F, 4 ^ m = F := ⟨_, rfl⟩
    rw [hF] at hm10 hgo hst HP hb ⊢
    have HS := Lib.hid hs
    clear hs hF
    by_cases hlt : F < n
    · have hd : decide ((F : Int) < (n : Int)) = true := by simp; omega
      have h9 := hm10 hlt
      have HG := Lib.hid (hgo hlt)
      clear hgo hst hm10
      go_wp2_with fail
      exact ⟨⟨m + 1, q - 1, by have := HG.out.1; omega, by omega, rfl, by rw [HP.out], by rw [← HG.out.2]; exact HS.out, rfl⟩, by simp [intOf]; omega⟩
    · have hd : decide ((F : Int) < (n : Int)) = false := by simp; omega
      have HST := Lib.hid (hst hlt)
      clear hgo hst hm10
      go_wp2_with fail
      go_ret
      exact ⟨by rw [← HS.out, HST.out]; rfl, rfl⟩
theorem own_later11 {W W' : World} {n : Nat} {v : Value} {xs : List Value} {m : Nat} (h : W.ownsRow n 5 1 v m xs) (hb : Below W.heap.size W W') : W'.ownsRow n 5 1 v m xs := by
  obtain ⟨h1, h2 | ⟨g, cap, cur, e, hbs, hg, hr⟩⟩ := h
  · exact ⟨h1, .inl h2⟩
  · exact ⟨h1, .inr ⟨g, cap, cur, e, hbs, by rw [hb.block g (Array.getElem?_eq_some_iff.1 hg).1]; exact hg, hr⟩⟩
def SzAt (m : Nat) (w : World) (s i : Value) (wr : World) : Prop :=
  ∃ j : Nat, j ≤ m ∧ i = .int .i64 (j : Int) ∧ s = .int .i64 ((2 ^ j : Nat) : Int) ∧ wr = w
def NbAt (l : List UInt8) (w : World) (s i : Value) (wr : World) : Prop :=
  ∃ j : Nat, j ≤ 8 ∧ i = .int .i64 j ∧ s = .int .u64 (Da.nbe (l.take j) : Nat) ∧ Below w.heap.size w wr
set_option maxRecDepth 100000 in
set_option maxHeartbeats 2000000 in
theorem rstep_of (Z : Array Value) (hZ : Z = (bytesV (List.replicate 32 0)).toArray) (hzs : ∀ w, Sem.run Tryd.prog (zeroValue 51) w = .ok (.agg Z) w)
    (k : List UInt8) (o : Option Addr) (c : Nat) (m : Nat) (h10 : m ≤ 10) (x : Nat) (hx : x < 4 ^ m) (w : World) (hK : RowIs w o (bytesV k) c) (hV : Rds w) (hkl : k.length ≤ 90000) :
    Calls Tryd.prog 17 #[.slice o k.length c, .int .i64 (m : Int), .int .i64 (x : Int)] w fun e w' => e = .returned (.int .i64 ((Da.son k m x : Nat) : Int)) ∧ Below w.heap.size w w' := by
  have HK := Lib.hid hK
  have HV := Lib.hid hV
  have HZ := Lib.hid hZ
  have HKL := Lib.hid hkl
  obtain ⟨L, hL⟩ : ∃ L, k.length = L := ⟨_, rfl⟩
  have HL := Lib.hid hL
  rw [hL]
  have HX4 := Lib.hid hx
  have HQ := Lib.hid (Da.cut2_hv hx)
  have HX : Hid (Da.son k m x = (Da.rnds k m 4 (Da.cut2 m x)).1 * 2 ^ m + (Da.rnds k m 4 (Da.cut2 m x)).2) := Lib.hid rfl
  clear hK hV hkl hL hx hZ
  go_enter Tryd.func17, Tryd.ntmps17
  go_wp2_with fail
  go_loopw [7, 8] (fun s i wr => SzAt m w s i wr) (fun _ i _ => m - (intOf i).toNat)
  case atStart => exact ⟨0, Nat.zero_le _, rfl, rfl, rfl⟩
  case round =>
    obtain ⟨j, hj, rfl, rfl, rfl⟩ := hrel
    by_cases hlt : j < m
    · have HP : Hid (((2 ^ (j + 1) : Nat) : Int) = ((2 ^ j : Nat) : Int) * 2) := Lib.hid (by rw [Nat.pow_succ]; simp)
      have hb := two_bd (m := j) (by omega)
      obtain ⟨F, hF⟩ : ∃ F, 2 ^ j = F := ⟨_, rfl⟩
      rw [hF] at HP hb ⊢
      clear hF
      go_wp2_with fail
      exact ⟨⟨j + 1, by omega, rfl, by rw [HP.out], rfl⟩, by simp [intOf]; omega⟩
    · obtain rfl : j = m := by omega
      have hb := two_bd h10
      have hp := Nat.two_pow_pos j
      have HX0 : Hid (∀ wr', Below wr.heap.size wr wr' → OnAt k j (Da.cut2 j x) wr (.int .i64 ((x / 2 ^ j : Nat) : Int)) (.int .i64 ((x % 2 ^ j : Nat) : Int)) (.int .i64 0) wr') := Lib.hid (fun wr' hb => ⟨0, by omega, rfl, rfl, rfl, hb⟩)
      obtain ⟨S, hS⟩ : ∃ S, 2 ^ j = S := ⟨_, rfl⟩
      have HS := Lib.hid hS
      rw [hS] at hb hp HX0 ⊢
      have hq0 : ((S : Int) == 0) = false := beq_false_of_ne (by omega)
      have h1 : (x : Int).tdiv (S : Int) = ((x / S : Nat) : Int) := by rw [Int.tdiv_eq_ediv_of_nonneg (by omega)]; rfl
      have h2 : (x : Int).tmod (S : Int) = ((x % S : Nat) : Int) := by rw [Int.tmod_eq_emod_of_nonneg (by omega)]; rfl
      have hxb : x < 1048576 := Nat.lt_of_lt_of_le HX4.out (four_bd h10)
      have h3 : x / S < 1048576 := Nat.lt_of_le_of_lt (Nat.div_le_self _ _) hxb
      have h4 : x % S < 1048576 := Nat.lt_of_le_of_lt (Nat.mod_le _ _) hxb
      obtain ⟨R1, hR1⟩ : ∃ R, x / S = R := ⟨_, rfl⟩
      obtain ⟨R2, hR2⟩ : ∃ R, x % S = R := ⟨_, rfl⟩
      rw [hR1] at h1 h3 HX0
      rw [hR2] at h2 h4 HX0
      clear hS hR1 hR2
      go_wp2_with fail
      go_quiet (fail)
      go_wp2_with fail
      have HB0 : Hid (Below wr.heap.size wr (wr.drewN nq)) := Lib.hid (Kit.dn' wr nq)
      have HBw : Hid (Below wr.heap.size wr wr) := Lib.hid (Below.refl _ _)
      clear h1 h2 h3 h4 hxb
      go_loopw [9, 10, 11] (fun a b i wr' => OnAt k j (Da.cut2 j x) wr a b i wr') (fun _ _ i _ => 4 - (intOf i).toNat)
      case atStart => exact HX0.out _ HB0.out
      case round =>
        rename World => X0
        obtain ⟨r, hr, rfl, rfl, rfl, hB⟩ := hrel
        have hv := HQ.out.rnds k r
        have HN : Hid (Da.rnds k j (r + 1) (Da.cut2 j x) = ((Da.rnds k j r (Da.cut2 j x)).2, (Da.rnds k j r (Da.cut2 j x)).1 ^^^ Da.mx k j r (Da.rnds k j r (Da.cut2 j x)).2)) := Lib.hid rfl
        have hXJ : r = 4 → Da.son k j x = (Da.rnds k j r (Da.cut2 j x)).1 * S + (Da.rnds k j r (Da.cut2 j x)).2 := fun h => by rw [h, ← HS.out]; exact HX.out
        obtain ⟨⟨a, d⟩, hac⟩ : ∃ u, Da.rnds k j r (Da.cut2 j x) = u := ⟨_, rfl⟩
        rw [hac] at hv HN hXJ ⊢
        obtain ⟨ha, hc⟩ := hv
        dsimp only at ha hc HN hXJ ⊢
        rw [HS.out] at ha hc
        have HB := Lib.hid hB
        clear hB hac HX0
        by_cases hlt : r < 4
        · have hd1 : decide ((r : Int) < 4) = true := by simp; omega
          clear hXJ
          have hr8 : (UInt8.ofNat r).toNat = r := by rw [UInt8.toNat_ofNat']; omega
          obtain ⟨X1, hX1⟩ : ∃ X1, X0.alloc (.cells #[.int .u8 (r : Int)] 5) = X1 := ⟨_, rfl⟩
          obtain ⟨g1, hg1⟩ : ∃ g1, X0.heap.size = g1 := ⟨_, rfl⟩
          have hb1 : Below X0.heap.size X0 X1 := by rw [← hX1]; exact (Below.refl _ _).alloc (Nat.le_refl _) _
          have HO1 : Hid (X1.ownsRow X0.heap.size 5 1 (.slice (some ⟨g1, 0, none⟩) 1 1) 1 (bytesV [UInt8.ofNat r])) := Lib.hid (by
            have e : bytesV [UInt8.ofNat r] = (#[Value.int .u8 (r : Int)] : Array Value).toList := by simp [bytesV]; omega
            rw [e, ← hX1, ← hg1]
            exact World.ownsRow_lit X0 #[.int .u8 (r : Int)] 1 (Nat.le_refl _) (by unfold maxLen; decide) rfl)
          have hw8 : IntKind.u8.wrap (r : Int) = (r : Int) := by rw [IntKind.wrap_u8]; omega
          have HB1 := Lib.hid hb1
          have HX1 := Lib.hid hX1
          have HG1 := Lib.hid hg1
          clear hb1 hX1 hg1 hr8
          go_wp2_with (first | rw [HX1.out, HG1.out])
          refine (rnum9_any (d : Int) X1).mono ?_
          rintro e X2 ⟨g2, rfl, hr2, hb2⟩
          have HO2 := Lib.hid (own_later11 HO1.out hb2)
          have HR2 : Hid (RowIs X2 (some ⟨g2, 0, none⟩) (bytesV (Da.num8 (d : Int))) 8) := Lib.hid hr2
          have HB2 := Lib.hid (Kit.step HB1.out hb2)
          clear hr2 hb2 HO1 HX1
          go_wp2_with (first | (at_builtin; refine append_row rfl (.tmp 37) (.tmp 39) rfl X0.heap.size _ 1 [UInt8.ofNat r] rfl HO2.out (some ⟨g2, 0, none⟩) 8 8 (Da.num8 (d : Int)) rfl (Da.num8_length _).symm HR2.out (by omega) HB2.out.size ?_))
          intro v3 X3 hv3 hg3
          have hb3 := own_below (n := 0) HB2.out HO2.out hg3
          obtain ⟨o3, c3, rfl, hr3⟩ := owns_is hv3 (by simp [Da.num8_length])
          have RM := rmac_any k ([UInt8.ofNat r] ++ Da.num8 (d : Int)) o o3 c c3 X3 (((HK.out.later HBw.out).later HB.out).later hb3) hr3 (((HV.out.later HBw.out).later HB.out).later hb3) HKL.out (by simp [Da.num8_length])
          rw [HL.out, show ([UInt8.ofNat r] ++ Da.num8 (d : Int)).length = 9 by simp [Da.num8_length]] at RM
          obtain ⟨H, hH⟩ : ∃ H, Da.hmac k ([UInt8.ofNat r] ++ Da.num8 (d : Int)) = H := ⟨_, rfl⟩
          have hHl : H.length = 32 := by rw [← hH]; exact Da.hmac_length _ _
          have HMX : Hid (Da.mx k j r d = Da.nbe (H.take 8) % S) := Lib.hid (by rw [← hH, ← HS.out]; rfl)
          obtain ⟨E, hE⟩ : ∃ E, (bytesV H).toArray = E := ⟨_, rfl⟩
          rw [hH, hE] at RM
          have HRM := Lib.hid RM
          have HDS : Hid ((Tryd.prog.info? 51).map (·.size) = some E.size) := Lib.hid (by rw [d32_info, ← hE]; simp [hHl])
          have HDO : Hid (E.all (·.oneCell') = true) := Lib.hid (by rw [← hE]; exact all_oneCell_toArray (bytesV_one _))
          have HDZ : Hid (Z.size = E.size) := Lib.hid (by rw [HZ.out, ← hE]; simp [hHl])
          have HE := Lib.hid hE
          have HHL := Lib.hid hHl
          have HB3 := Lib.hid hb3
          clear RM hE hHl hH hb3 hv3 hg3 hr3 HO2 HR2
          go_wp2_with fail
          refine HRM.out.mono ?_
          rintro e X4 ⟨rfl, hb4⟩
          obtain ⟨gD, hgD⟩ : ∃ gD, X4.heap.size = gD := ⟨_, rfl⟩
          obtain ⟨X5, hX5⟩ : ∃ X5, X4.alloc (.cells Z 51) = X5 := ⟨_, rfl⟩
          obtain ⟨X6, hX6⟩ : ∃ X6, X5.setRow gD E = X6 := ⟨_, rfl⟩
          have hA5 : Arr X5 gD 51 Z.toList := by rw [← hX5, ← hgD]; exact Arr.made _ _ _
          have hA6 : Arr X6 gD 51 (bytesV H) := by rw [← hX6, ← HE.out]; exact setRow_heap _ _ _ _ _ _ hA5
          have hb6 : Below X4.heap.size X4 X6 := by rw [← hX6, ← hX5]; exact ((Below.refl _ _).alloc (Nat.le_refl _) _).trans (below_row (Nat.le_of_eq hgD))
          have HB6 := Lib.hid (Kit.step (Kit.step HB3.out hb4) hb6)
          have HA6 := Lib.hid hA6
          have HA5 : Hid (X5.heap[gD]? = some (.cells Z 51 (0, 0))) := Lib.hid hA5
          have HX5 := Lib.hid hX5
          have HX6 := Lib.hid hX6
          have HGD := Lib.hid hgD
          clear hX5 hX6 hgD hA5 hA6 hb6 hb4 HRM
          go_wp2_with (first | rw [HX5.out, HGD.out] | refine wpList_store_row rfl 51 (.tmp 12) (.tmp 41) rfl gD E rfl rfl 51 Z HA5.out HDS.out HDZ.out HDO.out ?_ | rw [HX6.out])
          go_loopw [13, 44] (fun s i wr' => NbAt H X6 s i wr') (fun _ i _ => 8 - (intOf i).toNat)
          case atStart => exact ⟨0, by omega, rfl, rfl, Below.refl _ _⟩
          case round =>
            rename World => Y
            obtain ⟨q, hq, rfl, rfl, hBY⟩ := hrel
            by_cases hlt8 : q < 8
            · have hcc : Y.cell? ⟨gD, q, none⟩ = some (.int .u8 ((H.getD q 0).toNat : Int)) := by
                rw [(HA6.out.later hBY HA6.out.lt).cell]
                exact bytesV_get H q (by rw [HHL.out]; omega)
              have hst := Da.nbe_step H q (by rw [HHL.out]; omega)
              obtain ⟨s, hs⟩ : ∃ s, Da.nbe (H.take q) = s := ⟨_, rfl⟩
              obtain ⟨y, hy⟩ : ∃ y, (H.getD q 0).toNat = y := ⟨_, rfl⟩
              have hyl : y < 256 := by rw [← hy]; exact UInt8.toNat_lt _
              have hsm : s < 2 ^ 56 := by
                rw [← hs]
                exact Nat.lt_of_lt_of_le (Da.nbe_lt H q) (by rw [show (2 : Nat) ^ 56 = 256 ^ 7 from rfl]; exact Nat.pow_le_pow_right (by omega) (by omega))
              rw [hs, hy] at hst
              rw [hy] at hcc
              rw [hs]
              have h1 : IntKind.u64.wrap ((s : Int) * 256) = (s : Int) * 256 := by rw [IntKind.wrap_u64]; omega
              have h2 : IntKind.u64.wrap (y : Int) = (y : Int) := by rw [IntKind.wrap_u64]; omega
              have h3 : IntKind.u64.wrap ((s : Int) * 256 + (y : Int)) = (s : Int) * 256 + (y : Int) := by rw [IntKind.wrap_u64]; omega
              have HBY := Lib.hid hBY
              have HST := Lib.hid hst
              clear hBY hst hs hy
              go_wp2_with fail
              exact ⟨⟨q + 1, by omega, rfl, by rw [HST.out]; rfl, HBY.out⟩, by simp [intOf]; omega⟩
            · obtain rfl : q = 8 := by omega
              have hnl := Da.nbe_lt H 8
              have HMX := HMX
              obtain ⟨N, hN⟩ : ∃ N, Da.nbe (H.take 8) = N := ⟨_, rfl⟩
              rw [hN] at hnl HMX ⊢
              have hNl : N < 18446744073709551616 := hnl
              have hsm : N % S < S := Nat.mod_lt _ hp
              have h1 : IntKind.u64.wrap (S : Int) = (S : Int) := by rw [IntKind.wrap_u64]; omega
              have h2 : ((N : Int).tmod (S : Int)) = ((N % S : Nat) : Int) := by rw [Int.tmod_eq_emod_of_nonneg (by omega)]; rfl
              rw [← HMX.out] at h2 hsm
              obtain ⟨y, hy⟩ : ∃ y, Da.mx k j r d = y := ⟨_, rfl⟩
              rw [hy] at h2 hsm HN
              have h3 : IntKind.u64.wrap (y : Int) = (y : Int) := by rw [IntKind.wrap_u64]; omega
              have h4 : IntKind.i64.wrap (y : Int) = (y : Int) := by rw [IntKind.wrap_i64]; omega
              have HXO := Lib.hid (xor_i64 a y (by omega) (by omega))
              have HBY := Lib.hid (Kit.step (Kit.step HB.out HB6.out) hBY)
              clear hBY hnl hN hy hNl hsm
              go_wp2_with fail
              exact ⟨⟨r + 1, by omega, by rfl, by rw [HN.out], by rw [HN.out, HXO.out], HBY.out⟩, by simp [intOf]; omega⟩
        · obtain rfl : r = 4 := by omega
          have hd1 : decide (((4 : Nat) : Int) < 4) = false := by decide
          have HXJ := Lib.hid (hXJ rfl)
          have hm1 : a * S ≤ 1024 * 1024 := Nat.mul_le_mul (by omega) (by omega)
          have HF : Hid (((a * S + d : Nat) : Int) = (a : Int) * (S : Int) + (d : Int)) := Lib.hid (by simp)
          obtain ⟨P, hP⟩ : ∃ P : Int, (a : Int) * (S : Int) = P := ⟨_, rfl⟩
          have hPb : 0 ≤ P ∧ P ≤ 1048576 := by
            rw [← hP]
            have e : (a : Int) * (S : Int) = ((a * S : Nat) : Int) := by simp
            rw [e]; omega
          have HF : Hid (((Da.son k j x : Nat) : Int) = P + (d : Int)) := Lib.hid (by rw [HXJ.out, HF.out, hP])
          have hdS : (d : Int) < 1024 := by omega
          clear hXJ hm1 HXJ
          go_wp2_with fail
          go_ret
          exact ⟨by rw [HF.out]; rfl, HB.out⟩
theorem rstep_any (k : List UInt8) (o : Option Addr) (c : Nat) (m : Nat) (h10 : m ≤ 10) (x : Nat) (hx : x < 4 ^ m) (w : World) (hK : RowIs w o (bytesV k) c) (hV : Rds w) (hkl : k.length ≤ 90000) :
    Calls Tryd.prog 17 #[.slice o k.length c, .int .i64 (m : Int), .int .i64 (x : Int)] w fun e w' => e = .returned (.int .i64 ((Da.son k m x : Nat) : Int)) ∧ Below w.heap.size w w' :=
  rstep_of _ rfl d32_zero k o c m h10 x hx w hK hV hkl
set_option maxRecDepth 100000 in
set_option maxHeartbeats 1000000 in
theorem rto_any (k : List UInt8) (o : Option Addr) (c : Nat) (n : Nat) (hn : n ≤ 1048576) (x : Nat) (hx : x < n) (w : World) (hK : RowIs w o (bytesV k) c) (hV : Rds w) (hkl : k.length ≤ 90000) :
    Calls Tryd.prog 15 #[.slice o k.length c, .int .i64 (n : Int), .int .i64 (x : Int)] w fun e w' => e = .returned (.int .i64 ((Da.pl (Da.son k (Da.bw n)) n (4 ^ Da.bw n) x : Nat) : Int)) ∧ Below w.heap.size w w' := by
  have BI := Lib.hid (rbits_any n hn w)
  have hm10 := (Da.bw_le n hn).2
  have hnM := Da.bw_ge n hn
  obtain ⟨m, hm⟩ : ∃ m, Da.bw n = m := ⟨_, rfl⟩
  rw [hm] at hm10 hnM BI ⊢
  have hp : Da.Perm (4 ^ m) (Da.son k m) (Da.sbk k m) := Da.sperm k m
  obtain ⟨H, hM⟩ := hp.hit n x hx hnM
  have ST : Hid (∀ (y : Nat), y < 4 ^ m → ∀ v, Below w.heap.size w v → Calls Tryd.prog 17 #[.slice o k.length c, .int .i64 (m : Int), .int .i64 (y : Int)] v fun e w' => e = .returned (.int .i64 ((Da.son k m y : Nat) : Int)) ∧ Below v.heap.size v w') :=
    Lib.hid (fun y hy v hb => rstep_any k o c m hm10 y hy v (hK.later hb) (hV.later hb) hkl)
  obtain ⟨L, hL⟩ : ∃ L, k.length = L := ⟨_, rfl⟩
  rw [hL] at ST ⊢
  have hFT : ∀ y, y < 4 ^ m → Da.son k m y < 4 ^ m := hp.flt
  have hxM : x < 4 ^ m := by omega
  obtain ⟨T, hT⟩ : ∃ T, Da.pl (Da.son k m) n (4 ^ m) x = T := ⟨_, rfl⟩
  have hit0 : Da.it (Da.son k m) (Da.dst (Da.son k m) n (4 ^ m) (Da.son k m x)) (Da.son k m x) = T := hT
  obtain ⟨f, hf⟩ : ∃ f, Da.son k m = f := ⟨_, rfl⟩
  rw [hT]
  rw [hf] at H hM ST hFT hit0
  obtain ⟨M, hMM⟩ : ∃ M, 4 ^ m = M := ⟨_, rfl⟩
  rw [hMM] at H hM ST hFT hit0 hxM
  have HFT := Lib.hid hFT
  obtain ⟨d0, hd0⟩ : ∃ d, Da.dst f n M (f x) = d := ⟨_, rfl⟩
  rw [hd0] at H hM hit0
  have HX0 : Hid (∀ wr, Below w.heap.size w wr → Co11At f n M T w (.int .i64 ((f x : Nat) : Int)) wr) := Lib.hid (fun wr hb => ⟨f x, d0, rfl, hFT x hxM, by omega, H, hit0, hb⟩)
  have ST0 := Lib.hid (ST.out x hxM w (Below.refl _ _))
  obtain ⟨x1, hx1⟩ : ∃ x1, f x = x1 := ⟨_, rfl⟩
  rw [hx1] at HX0 ST0
  clear hK hV hm hnM hp H hM hFT hxM hT hit0 hf hMM hd0 hx1 hx hm10 hL hkl
  go_enter Tryd.func15, Tryd.ntmps15
  go_wp2_with fail
  refine BI.out.mono ?_
  rintro e w1 ⟨rfl, rfl⟩
  go_wp2_with fail
  refine ST0.out.mono ?_
  rintro e W1 ⟨rfl, hb1⟩
  have HB1 := Lib.hid hb1
  clear hb1 ST0 BI
  go_wp2_with fail
  go_loopw [8] (fun i wr => Co11At f n M T w1 i wr) (fun i _ => Da.dst f n M (intOf i).toNat)
  case atStart => exact HX0.out W1 HB1.out
  case round =>
    obtain ⟨y, d, rfl, hy, hd, hh, hi, hB⟩ := hrel
    by_cases hlt : y < n
    · have hd1 : decide ((y : Int) ≥ (n : Int)) = false := by simp; omega
      have he : y = T := by
        have := hh.here hlt
        subst this
        exact hi
      have HE := Lib.hid he
      have HB := Lib.hid hB
      clear hB hh hi he hy hd
      go_wp2_with fail
      go_ret
      exact ⟨by rw [← HE.out]; rfl, HB.out⟩
    · have hd1 : decide ((y : Int) ≥ (n : Int)) = true := by simp; omega
      have hdy := hh.dst hd
      obtain ⟨d', rfl, hh'⟩ := hh.step (by omega)
      have hdf := hh'.dst (q := M) (by omega)
      have ST1 := Lib.hid (ST.out y hy wr hB)
      have HNX : Hid (∀ wr', Below w1.heap.size w1 wr' → Co11At f n M T w1 (.int .i64 ((f y : Nat) : Int)) wr') := Lib.hid (fun wr' hb => ⟨f y, d', rfl, HFT.out y hy, by omega, hh', hi, hb⟩)
      have HDL : Hid (Da.dst f n M (f y) < Da.dst f n M y) := Lib.hid (by rw [hdy, hdf]; omega)
      obtain ⟨y1, hy1⟩ : ∃ y1, f y = y1 := ⟨_, rfl⟩
      rw [hy1] at ST1 HNX HDL
      have HB := Lib.hid hB
      clear hB hh hi hy hd hdy hh' hdf hy1
      go_wp2_with fail
      refine ST1.out.mono ?_
      rintro e W2 ⟨rfl, hb2⟩
      have HB2 := Lib.hid (Kit.step HB.out hb2)
      clear hb2 ST1
      go_wp2_with fail
      exact ⟨HNX.out W2 HB2.out, by simp only [intOf, Int.toNat_natCast]; exact HDL.out⟩
end Go.Proofs.YtgpojlblhaphnaaDoor
