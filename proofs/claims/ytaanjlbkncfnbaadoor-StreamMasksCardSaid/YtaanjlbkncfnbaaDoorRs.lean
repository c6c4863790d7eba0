/- The document's Block, Number and Mask of a stream. -/
import Derived.Test.YtaanjlbkncfnbaaDoorSq
import Derived.Test.YtaanjlbkncfnbaaDoorLw
namespace Go.Proofs.YtaanjlbkncfnbaaDoor
open Go.RowKit
set_option linter.unusedVariables false
set_option linter.unusedSimpArgs false
theorem owns_kind {W : World} {n : Nat} {v : Value} {xs : List Value} {m : Nat} (base : Nat) (h : W.ownsRow n 5 1 v m xs) : KindB base W v := by
  obtain ⟨hl, hx⟩ := h
  rcases hx with ⟨rfl, h0⟩ | ⟨g, cap, cur, rfl, hg, hh, h1, h2, hcur, htake⟩
  · intro ad l c e; cases e
  · intro ad l c e h0
    cases e
    exact .inr ⟨cur, hh⟩
set_option maxRecDepth 100000 in
set_option maxHeartbeats 1000000 in
theorem rblk_of (Z : Array Value) (hZ : Z = (bytesV (List.replicate 32 0)).toArray) (hzs : ∀ w, Sem.run Tryd.prog (zeroValue 55) w = .ok (.agg Z) w)
    (k : List UInt8) (o : Option Addr) (c : Nat) (n : Int) (w : World) (hK : RowIs w o (bytesV k) c) (hV : Rds w) (hkl : k.length ≤ 90000) :
    Calls Tryd.prog 11 #[.slice o k.length c, .int .i64 n] w fun e w' => ∃ x, e = .returned (.tuple #[x, .int .i64 (Da.rb n : Nat)]) ∧ RowV (Da.kres (Da.rb n) (Da.sb k n)) x w' ∧ Below w.heap.size w w' := by
  by_cases hr : Da.inR n = true
  · have hrr : Da.rb n = 0 := by unfold Da.rb; rw [if_pos hr]
    have hn : 0 ≤ n ∧ n ≤ 1099511627776 := Da.rb_zero hrr
    have hd1 : decide (n < 0) = false := by simp; omega
    have hd2 : decide (n > 1099511627776) = false := by simp; omega
    have hsb : Da.kres (Da.rb n) (Da.sb k n) = Da.sb k n := by rw [hrr]; rfl
    rw [hrr] at hsb ⊢
    rw [hsb]
    have HK := Lib.hid hK
    have HV := Lib.hid hV
    obtain ⟨h, hh⟩ : ∃ h, Da.hmac k (Da.num8 n) = h := ⟨_, rfl⟩
    have hhl : h.length = 32 := by rw [← hh]; exact Da.hmac_length _ _
    obtain ⟨E, hE⟩ : ∃ E, (bytesV h).toArray = E := ⟨_, rfl⟩
    have HDS : Hid ((Tryd.prog.info? 55).map (·.size) = some E.size) := Lib.hid (by rw [d32_info, ← hE]; simp [hhl])
    have HDO : Hid (E.all (·.oneCell') = true) := Lib.hid (by rw [← hE]; exact all_oneCell_toArray (bytesV_one _))
    have HDZ : Hid (Z.size = E.size) := Lib.hid (by rw [hZ, ← hE]; simp [hhl])
    have HE := Lib.hid hE
    have HHL := Lib.hid hhl
    have HH := Lib.hid hh
    have HSB : Hid (Da.sb k n = h.take 8) := Lib.hid (by unfold Da.sb; rw [hh])
    clear hK hV hh hhl hE hZ hr hrr hsb hn
    go_enter Tryd.func11, Tryd.ntmps11
    go_wp2_with fail
    refine (rnum9_any n w).mono ?_
    rintro e W2 ⟨g2, rfl, hr2, hb2⟩
    have RM := Lib.hid (rmac_any k (Da.num8 n) o (some ⟨g2, 0, none⟩) c 8 W2 (HK.out.later hb2) hr2 (HV.out.later hb2) hkl (by rw [Da.num8_length]; decide))
    rw [HH.out, HE.out, Da.num8_length] at RM
    have HB2 := Lib.hid hb2
    clear hb2 hr2
    go_wp2_with fail
    refine RM.out.mono ?_
    rintro e X4 ⟨rfl, hb4⟩
    clear RM
    obtain ⟨gD, hgD⟩ : ∃ gD, X4.heap.size = gD := ⟨_, rfl⟩
    obtain ⟨X5, hX5⟩ : ∃ X5, X4.alloc (.cells Z 55) = X5 := ⟨_, rfl⟩
    obtain ⟨X6, hX6⟩ : ∃ X6, X5.setRow gD E = X6 := ⟨_, rfl⟩
    have hA5 : Arr X5 gD 55 Z.toList := by rw [← hX5, ← hgD]; exact Arr.made _ _ _
    have hA6 : Arr X6 gD 55 (bytesV h) := by rw [← hX6, ← HE.out]; exact setRow_heap _ _ _ _ _ _ hA5
    have hb6 : Below X4.heap.size X4 X6 := by rw [← hX6, ← hX5]; exact ((Below.refl _ _).alloc (Nat.le_refl _) _).trans (below_row (Nat.le_of_eq hgD))
    have hB6 := Kit.step (Kit.step HB2.out hb4) hb6
    obtain ⟨g6, hg6⟩ : ∃ g6, X6.heap.size = g6 := ⟨_, rfl⟩
    obtain ⟨X7, hX7⟩ : ∃ X7, X6.alloc (.cells #[] 5) = X7 := ⟨_, rfl⟩
    have hb7 : Below X6.heap.size X6 X7 := by rw [← hX7]; exact (Below.refl _ _).alloc (Nat.le_refl _) _
    have HO7 : Hid (X7.ownsRow w.heap.size 5 1 (.slice (some ⟨g6, 0, none⟩) 0 0) 0 (bytesV [])) := Lib.hid (by rw [← hX7, ← hg6]; exact World.ownsRow_lit X6 #[] 0 hB6.size (Nat.zero_le _) rfl)
    have hr := ((hA6.later hb7 hA6.lt).row (by rw [HHL.out]; unfold maxLen; decide)).pre 8 (by rw [HHL.out]; decide)
    rw [HHL.out] at hr
    have HR7 := Lib.hid hr
    have HTL : Hid (8 = (h.take 8).length) := Lib.hid (by rw [List.length_take, HHL.out]; rfl)
    have HB7 := Lib.hid (Kit.step hB6 hb7)
    have HA5 : Hid (X5.heap[gD]? = some (.cells Z 55 (0, 0))) := Lib.hid hA5
    have HX5 := Lib.hid hX5
    have HX6 := Lib.hid hX6
    have HX7 := Lib.hid hX7
    have HGD := Lib.hid hgD
    have HG6 := Lib.hid hg6
    clear hgD hg6 hX5 hX6 hX7 hA5 hA6 hb6 hB6 hb4 hb7 hr
    go_wp2_with (first | rw [HX5.out, HGD.out] | refine wpList_store_row rfl 55 (.tmp 6) (.tmp 16) rfl gD E rfl rfl 55 Z HA5.out HDS.out HDZ.out HDO.out ?_ | rw [HX6.out] | rw [HX7.out, HG6.out] | (at_builtin; refine append_row rfl (.tmp 17) (.tmp 18) rfl w.heap.size _ 0 [] rfl HO7.out (some ⟨gD, 0, none⟩) 8 32 (h.take 8) rfl HTL.out HR7.out (by omega) HB7.out.size ?_))
    intro v8 X8 hv hg
    have HB8 := Lib.hid (own_below (n := 0) HB7.out HO7.out hg)
    have HV8 : Hid (RowV (h.take 8) v8 X8) := Lib.hid (owns_rv hv (by rw [← HTL.out]))
    clear hv hg
    go_wp2_with fail
    refine bodyPost_ret (results_tmp2 rfl _ _ _) rfl ?_
    exact ⟨v8, rfl, by rw [HSB.out]; exact HV8.out, HB8.out⟩
  · have hrr : Da.rb n = 1 := by unfold Da.rb; rw [if_neg hr]
    have hsb : Da.kres (Da.rb n) (Da.sb k n) = [] := by rw [hrr]; rfl
    rw [hrr] at hsb ⊢
    rw [hsb]
    have hn : n < 0 ∨ 1099511627776 < n := by
      unfold Da.inR at hr
      simp at hr
      omega
    clear hrr hsb hr hK hV
    rcases hn with hn | hn
    · have hd1 : decide (n < 0) = true := by simp; omega
      go_enter Tryd.func11, Tryd.ntmps11
      go_wp2_with fail
      refine bodyPost_ret (results_tmp2 rfl _ _ _) rfl ?_
      exact ⟨_, rfl, RowV.nil _, Below.refl _ _⟩
    · have hd1 : decide (n < 0) = false := by simp; omega
      have hd2 : decide (n > 1099511627776) = true := by simp; omega
      go_enter Tryd.func11, Tryd.ntmps11
      go_wp2_with fail
      refine bodyPost_ret (results_tmp2 rfl _ _ _) rfl ?_
      exact ⟨_, rfl, RowV.nil _, Below.refl _ _⟩
theorem rblk_any (k : List UInt8) (o : Option Addr) (c : Nat) (n : Int) (w : World) (hK : RowIs w o (bytesV k) c) (hV : Rds w) (hkl : k.length ≤ 90000) :
    Calls Tryd.prog 11 #[.slice o k.length c, .int .i64 n] w fun e w' => ∃ x, e = .returned (.tuple #[x, .int .i64 (Da.rb n : Nat)]) ∧ RowV (Da.kres (Da.rb n) (Da.sb k n)) x w' ∧ Below w.heap.size w w' :=
  rblk_of _ rfl d32_zero k o c n w hK hV hkl
set_option maxRecDepth 100000 in
set_option maxHeartbeats 1000000 in
theorem rnum10_of (Z : Array Value) (hZ : Z = (bytesV (List.replicate 32 0)).toArray) (hzs : ∀ w, Sem.run Tryd.prog (zeroValue 55) w = .ok (.agg Z) w)
    (k : List UInt8) (o : Option Addr) (c : Nat) (n : Int) (w : World) (hK : RowIs w o (bytesV k) c) (hV : Rds w) (hkl : k.length ≤ 90000) :
    Calls Tryd.prog 15 #[.slice o k.length c, .int .i64 n] w fun e w' => e = .returned (.int .u64 (Da.sn k n : Nat)) ∧ Below w.heap.size w w' := by
  have HK := Lib.hid hK
  have HV := Lib.hid hV
  obtain ⟨h, hh⟩ : ∃ h, Da.hmac k (Da.num8 n) = h := ⟨_, rfl⟩
  have hhl : h.length = 32 := by rw [← hh]; exact Da.hmac_length _ _
  obtain ⟨E, hE⟩ : ∃ E, (bytesV h).toArray = E := ⟨_, rfl⟩
  have HDS : Hid ((Tryd.prog.info? 55).map (·.size) = some E.size) := Lib.hid (by rw [d32_info, ← hE]; simp [hhl])
  have HDO : Hid (E.all (·.oneCell') = true) := Lib.hid (by rw [← hE]; exact all_oneCell_toArray (bytesV_one _))
  have HDZ : Hid (Z.size = E.size) := Lib.hid (by rw [hZ, ← hE]; simp [hhl])
  have HE := Lib.hid hE
  have HHL := Lib.hid hhl
  have HH := Lib.hid hh
  have HSN : Hid (Da.sn k n = Da.nbe (h.take 8)) := Lib.hid (by unfold Da.sn Da.sb; rw [hh])
  clear hK hV hh hhl hE hZ
  go_enter Tryd.func15, Tryd.ntmps15
  go_wp2_with fail
  refine (rnum9_any n w).mono ?_
  rintro e W2 ⟨g2, rfl, hr2, hb2⟩
  have RM := Lib.hid (rmac_any k (Da.num8 n) o (some ⟨g2, 0, none⟩) c 8 W2 (HK.out.later hb2) hr2 (HV.out.later hb2) hkl (by rw [Da.num8_length]; decide))
  rw [HH.out, HE.out, Da.num8_length] at RM
  have HB2 := Lib.hid hb2
  clear hb2 hr2
  go_wp2_with fail
  refine RM.out.mono ?_
  rintro e X4 ⟨rfl, hb4⟩
  clear RM
  obtain ⟨gD, hgD⟩ : ∃ gD, X4.heap.size = gD := ⟨_, rfl⟩
  obtain ⟨X5, hX5⟩ : ∃ X5, X4.alloc (.cells Z 55) = X5 := ⟨_, rfl⟩
  obtain ⟨X6, hX6⟩ : ∃ X6, X5.setRow gD E = X6 := ⟨_, rfl⟩
  have hA5 : Arr X5 gD 55 Z.toList := by rw [← hX5, ← hgD]; exact Arr.made _ _ _
  have hA6 : Arr X6 gD 55 (bytesV h) := by rw [← hX6, ← HE.out]; exact setRow_heap _ _ _ _ _ _ hA5
  have hb6 : Below X4.heap.size X4 X6 := by rw [← hX6, ← hX5]; exact ((Below.refl _ _).alloc (Nat.le_refl _) _).trans (below_row (Nat.le_of_eq hgD))
  have HB6 := Lib.hid (Kit.step (Kit.step HB2.out hb4) hb6)
  have HA6 := Lib.hid hA6
  have HA5 : Hid (X5.heap[gD]? = some (.cells Z 55 (0, 0))) := Lib.hid hA5
  have HX5 := Lib.hid hX5
  have HX6 := Lib.hid hX6
  have HGD := Lib.hid hgD
  clear hX5 hX6 hgD hA5 hA6 hb6 hb4
  go_wp2_with (first | rw [HX5.out, HGD.out] | refine wpList_store_row rfl 55 (.tmp 5) (.tmp 12) rfl gD E rfl rfl 55 Z HA5.out HDS.out HDZ.out HDO.out ?_ | rw [HX6.out])
  go_loopw [6, 15] (fun s i wr => SnAt h X6 s i wr) (fun _ i _ => 8 - (intOf i).toNat)
  case atStart => exact ⟨0, by omega, rfl, rfl, Below.refl _ _⟩
  case round =>
    obtain ⟨j, hj, rfl, rfl, hB⟩ := hrel
    by_cases hlt : j < 8
    · have hc : wr.cell? ⟨gD, j, none⟩ = some (.int .u8 ((h.getD j 0).toNat : Int)) := by
        rw [(HA6.out.later hB HA6.out.lt).cell]
        exact bytesV_get h j (by rw [HHL.out]; omega)
      have hst := Da.nbe_step h j (by rw [HHL.out]; omega)
      obtain ⟨s, hs⟩ : ∃ s, Da.nbe (h.take j) = s := ⟨_, rfl⟩
      obtain ⟨y, hy⟩ : ∃ y, (h.getD j 0).toNat = y := ⟨_, rfl⟩
      have hyl : y < 256 := by rw [← hy]; exact UInt8.toNat_lt _
      have hsm : s < 2 ^ 56 := by
        rw [← hs]
        exact Nat.lt_of_lt_of_le (Da.nbe_lt h j) (by rw [show (2 : Nat) ^ 56 = 256 ^ 7 from rfl]; exact Nat.pow_le_pow_right (by omega) (by omega))
      rw [hs, hy] at hst
      rw [hy] at hc
      rw [hs]
      have h1 : IntKind.u64.wrap ((s : Int) * 256) = (s : Int) * 256 := by rw [IntKind.wrap_u64]; omega
      have h2 : IntKind.u64.wrap (y : Int) = (y : Int) := by rw [IntKind.wrap_u64]; omega
      have h3 : IntKind.u64.wrap ((s : Int) * 256 + (y : Int)) = (s : Int) * 256 + (y : Int) := by rw [IntKind.wrap_u64]; omega
      have HB := Lib.hid hB
      have HST := Lib.hid hst
      clear hB hst hs hy
      go_wp2_with fail
      exact ⟨⟨j + 1, by omega, rfl, by rw [HST.out]; rfl, HB.out⟩, by simp [intOf]; omega⟩
    · obtain rfl : j = 8 := by omega
      have HB := Lib.hid hB
      clear hB
      go_wp2_with fail
      go_ret
      exact ⟨by rw [HSN.out]; rfl, Kit.step HB6.out HB.out⟩
theorem rnum10_any (k : List UInt8) (o : Option Addr) (c : Nat) (n : Int) (w : World) (hK : RowIs w o (bytesV k) c) (hV : Rds w) (hkl : k.length ≤ 90000) :
    Calls Tryd.prog 15 #[.slice o k.length c, .int .i64 n] w fun e w' => e = .returned (.int .u64 (Da.sn k n : Nat)) ∧ Below w.heap.size w w' :=
  rnum10_of _ rfl d32_zero k o c n w hK hV hkl
theorem op_of {P : Program} {ops : Array Oper} {Q : Exit → Act → World → Prop} {i : Nat} {o : Oper} {b : Act} {v : World} {K : Act → World → Prop} (ho : ops[i]? = some o) (hg : o.guard = none) (h : o.wp P b v K Q) : wpOp P ops Q i K b v := by
  unfold wpOp
  rw [ho]
  dsimp only
  rw [if_pos (by simp [Region.wanted, hg])]
  exact .inl h
theorem op_value {P : Program} {ops : Array Oper} {Q : Exit → Act → World → Prop} {i : Nat} {o : Oper} {b : Act} {v v' : World} {x : Value} {K : Act → World → Prop} (ho : ops[i]? = some o) (hg : o.guard = none) (hr : (execOp b.eval o).run P v = .ok (.value x) v') (h : K (b.put o.dst x) v') : wpOp P ops Q i K b v := by
  refine op_of ho hg ?_
  unfold Oper.wp
  rw [hr]
  exact h
theorem own_later8 {W W' : World} {n : Nat} {v : Value} {xs : List Value} {m : Nat} (h : W.ownsRow n 5 1 v m xs) (hb : Below W.heap.size W W') : W'.ownsRow n 5 1 v m xs := by
  obtain ⟨h1, h2 | ⟨g, cap, cur, e, hbs, hg, hr⟩⟩ := h
  · exact ⟨h1, .inl h2⟩
  · exact ⟨h1, .inr ⟨g, cap, cur, e, hbs, by rw [hb.block g (Array.getElem?_eq_some_iff.1 hg).1]; exact hg, hr⟩⟩
def RmAt (L : List UInt8) (w : World) (v i : Value) (wr : World) : Prop :=
  ∃ j : Nat, j ≤ 8 ∧ i = .int .i64 j ∧ wr.ownsRow w.heap.size 5 1 v j (bytesV (L.take j)) ∧ Below w.heap.size w wr
set_option maxRecDepth 100000 in
set_option maxHeartbeats 1000000 in
theorem rmask_any (k : List UInt8) (o : Option Addr) (c : Nat) (n : Int) (b : List UInt8) (ob : Option Addr) (cb : Nat) (w : World) (hK : RowIs w o (bytesV k) c) (hB : RowIs w ob (bytesV b) cb) (hV : Rds w) (hkl : k.length ≤ 90000) :
    Calls Tryd.prog 12 #[.slice o k.length c, .int .i64 n, .slice ob b.length cb] w fun e w' => ∃ x, e = .returned (.tuple #[x, .int .i64 (Da.mb b n : Nat)]) ∧ RowV (Da.mk1 k n b) x w' ∧ (∀ base, KindB base w' x) ∧ Below w.heap.size w w' := by
  have hmf := @makes Tryd.prog
  have RB := Lib.hid (rblk_any k o c n w hK hV hkl)
  have HB := Lib.hid hB
  obtain ⟨L, hL⟩ : ∃ L, b.length = L := ⟨_, rfl⟩
  have hLm : L ≤ maxLen := by have := hB.le; have h2 := hB.cap; rw [bytesV_length, hL] at this; omega
  unfold maxLen at hLm
  have HL := Lib.hid hL
  rw [hL]
  by_cases h8 : L = 8
  · subst h8
    have hmb : Da.mb b n = Da.rb n := by unfold Da.mb; rw [if_pos hL]
    have HMB := Lib.hid hmb
    clear hK hB hV hL hLm
    by_cases hr : Da.rb n = 0
    · have HM1 : Hid (Da.mk1 k n b = Da.xr b (Da.sb k n)) := Lib.hid (by unfold Da.mk1; rw [hmb, if_pos hr]; rfl)
      have hrn : ((Da.rb n : Nat) : Int) = 0 := by rw [hr]; rfl
      have HM0 : Hid (((Da.mb b n : Nat) : Int) = 0) := Lib.hid (by rw [hmb, hr]; rfl)
      have hkr : Da.kres (Da.rb n) (Da.sb k n) = Da.sb k n := by rw [hr]; rfl
      rw [hkr, hrn] at RB
      have hsl := Da.sb_length k n
      obtain ⟨M, hM⟩ : ∃ M, Da.sb k n = M := ⟨_, rfl⟩
      rw [hM] at RB HM1 hsl
      have HML := Lib.hid hsl
      clear hmb hr hrn hkr hM hsl
      go_enter Tryd.func12, Tryd.ntmps12
      go_wp2_with fail
      refine RB.out.mono ?_
      rintro e W1 ⟨x, rfl, hx, hb1⟩
      obtain ⟨om, cm, rfl, hrm⟩ := hx
      rw [HML.out]
      obtain ⟨g1, hg1⟩ : ∃ g1, W1.heap.size = g1 := ⟨_, rfl⟩
      obtain ⟨W2, hW2⟩ : ∃ W2, W1.alloc (.cells #[] 5) = W2 := ⟨_, rfl⟩
      have hb2 : Below W1.heap.size W1 W2 := by rw [← hW2]; exact (Below.refl _ _).alloc (Nat.le_refl _) _
      have HX0 : Hid (RmAt (Da.xr b M) W1 (.slice (some ⟨g1, 0, none⟩) 0 0) (.int .i64 0) W2) := Lib.hid ⟨0, Nat.zero_le _, rfl, by rw [← hW2, ← hg1]; exact World.ownsRow_lit W1 #[] 0 (Nat.le_refl _) (Nat.zero_le _) rfl, hb2⟩
      obtain ⟨bb, ofb, rfl, hbl, hcb0⟩ := HB.out.cells (by rw [bytesV_length, HL.out]; decide)
      obtain ⟨bm, ofm, rfl, hbm, hcm0⟩ := hrm.cells (by rw [bytesV_length, HML.out]; decide)
      have HCB := Lib.hid hcb0
      have HCM := Lib.hid hcm0
      have HBL := Lib.hid hbl
      have HBM := Lib.hid hbm
      have HB1 := Lib.hid hb1
      have HB2 := Lib.hid hb2
      have HW2 := Lib.hid hW2
      have HG1 := Lib.hid hg1
      clear hb1 hb2 hrm hg1 hW2 hcb0 hcm0 hbl hbm RB
      go_wp2_with (first | rw [HW2.out, HG1.out])
      go_loopw [10, 27] (fun v i wr => RmAt (Da.xr b M) W1 v i wr) (fun _ i _ => 8 - (intOf i).toNat)
      case atStart => exact HX0.out
      case round =>
        rename World => Y1
        obtain ⟨j, hj, rfl, hown, hb⟩ := hrel
        by_cases hlt : j < 8
        · obtain ⟨x, hx⟩ : ∃ x, b.getD j 0 = x := ⟨_, rfl⟩
          obtain ⟨y, hy⟩ : ∃ y, M.getD j 0 = y := ⟨_, rfl⟩
          obtain ⟨z, hz⟩ : ∃ z, x ^^^ y = z := ⟨_, rfl⟩
          have hX : bits .xor .u8 (x.toNat : Int) (y.toNat : Int) = (z.toNat : Int) := by
            rw [← hz, UInt8.toNat_xor]; exact u8_xor_nat _ _ (UInt8.toNat_lt _) (UInt8.toNat_lt _)
          have HS : Hid (∀ v, Below w.heap.size w v → Below W1.heap.size W1 v → v.cell? ⟨bb, ofb + j, none⟩ = some (.int .u8 (x.toNat : Int)) ∧ v.cell? ⟨bm, ofm + j, none⟩ = some (.int .u8 (y.toNat : Int))) := Lib.hid (fun v h1 h2 => ⟨by
            rw [h1.cell (p := ⟨bb, ofb + j, none⟩) HBL.out]
            exact HCB.out j _ (by rw [bytesV_get b j (by rw [HL.out]; exact hlt), hx]), by
            rw [h2.cell (p := ⟨bm, ofm + j, none⟩) HBM.out]
            exact HCM.out j _ (by rw [bytesV_get M j (by rw [HML.out]; exact hlt), hy])⟩)
          have HE1 : Hid ((Da.xr b M).take j ++ [z] = (Da.xr b M).take (j + 1)) := Lib.hid (by
            have hxl : j < (Da.xr b M).length := by rw [Da.xr_length, HL.out, HML.out]; exact hlt
            rw [List.take_add_one, List.getElem?_eq_getElem hxl]
            have h := Da.xr_at b M j (by rw [HL.out]; exact hlt) (by rw [HML.out]; exact hlt)
            rw [hx, hy, hz] at h
            simp [hxl] at h
            simp [h])
          have HO := Lib.hid hown
          have HYW := Lib.hid hb
          have HY := Lib.hid (Kit.step HB1.out hb)
          clear hown hb hx hy hz HX0
          go_upto_region 10 with fail
          have hS0 : (fun v : World => v.cell? ⟨bb, ofb + j, none⟩ = some (.int .u8 (x.toNat : Int)) ∧ v.cell? ⟨bm, ofm + j, none⟩ = some (.int .u8 (y.toNat : Int))) Y1.drew := HS.out _ HY.out.drew HYW.out.drew
          refine wp_region_held (S := fun v => v.cell? ⟨bb, ofb + j, none⟩ = some (.int .u8 (x.toNat : Int)) ∧ v.cell? ⟨bm, ofm + j, none⟩ = some (.int .u8 (y.toNat : Int))) (by kernel_rfl) ?_
          refine wpAnyH_take (i := 0) (v := u10) rfl (by kernel_rfl) (by kernel_rfl) (by kernel_rfl) (fun _ _ _ h => h) (Or.inl ⟨by rfl, fun v hS => by go_simp⟩) hS0 ?_
          refine wpAnyH_take (i := 1) (v := .slice (some ⟨bb, ofb, none⟩) 8 cb) rfl (by kernel_rfl) (by kernel_rfl) (by kernel_rfl) (fun _ _ _ h => h) (Or.inl ⟨by rfl, fun v hS => by go_simp⟩) hS0 ?_
          refine wpAnyH_take (i := 2) (v := .int .i64 j) rfl (by kernel_rfl) (by kernel_rfl) (by kernel_rfl) (fun _ _ _ h => h) (Or.inl ⟨by rfl, fun v hS => by go_simp⟩) hS0 ?_
          refine wpAnyH_take (i := 3) (v := .pointer (some ⟨bb, ofb + j, none⟩)) rfl (by kernel_rfl) (by kernel_rfl) (by kernel_rfl) (fun _ _ _ h => h) (Or.inl ⟨by rfl, fun v hS => by go_simp⟩) hS0 ?_
          refine wpAnyH_take (i := 4) (v := .int .u8 x.toNat) rfl (by kernel_rfl) (by kernel_rfl) (by kernel_rfl) (fun _ _ _ h => h) (Or.inl ⟨by rfl, fun v hS => by have hc := hS.1; go_simp⟩) hS0 ?_
          refine wpAnyH_take (i := 5) (v := .slice (some ⟨bm, ofm, none⟩) 8 cm) rfl (by kernel_rfl) (by kernel_rfl) (by kernel_rfl) (fun _ _ _ h => h) (Or.inl ⟨by rfl, fun v hS => by go_simp⟩) hS0 ?_
          refine wpAnyH_take (i := 6) (v := .int .i64 j) rfl (by kernel_rfl) (by kernel_rfl) (by kernel_rfl) (fun _ _ _ h => h) (Or.inl ⟨by rfl, fun v hS => by go_simp⟩) hS0 ?_
          refine wpAnyH_take (i := 7) (v := .pointer (some ⟨bm, ofm + j, none⟩)) rfl (by kernel_rfl) (by kernel_rfl) (by kernel_rfl) (fun _ _ _ h => h) (Or.inl ⟨by rfl, fun v hS => by go_simp⟩) hS0 ?_
          refine wpAnyH_take (i := 8) (v := .int .u8 y.toNat) rfl (by kernel_rfl) (by kernel_rfl) (by kernel_rfl) (fun _ _ _ h => h) (Or.inl ⟨by rfl, fun v hS => by have hc := hS.2; go_simp⟩) hS0 ?_
          refine wpAnyH_take (i := 9) (v := .int .u8 z.toNat) rfl (by kernel_rfl) (by kernel_rfl) (by kernel_rfl) (fun _ _ _ h => h) (Or.inl ⟨by rfl, fun v hS => by go_simp⟩) hS0 ?_
          obtain ⟨Y2, hY2⟩ : ∃ Y2, Y1.drew.alloc (.cells #[.int .u8 (z.toNat : Int)] 5) = Y2 := ⟨_, rfl⟩
          obtain ⟨gz, hgz⟩ : ∃ gz, Y1.drew.heap.size = gz := ⟨_, rfl⟩
          have hb3 : Below Y1.heap.size Y1 Y2 := by rw [← hY2]; exact (Kit.dn' Y1 1).alloc (Nat.le_refl _) _
          have hz3 : RowIs Y2 (some ⟨gz, 0, none⟩) (bytesV [z]) 1 := by rw [← hY2, ← hgz]; exact one_row Y1.drew z
          refine wpAnyH_all (rs := [10]) (by kernel_rfl) (by simp) (fun i hi => ?_)
          obtain rfl : i = 10 := by simpa using hi
          refine op_value (x := .slice (some ⟨gz, 0, none⟩) 1 1) (v' := Y2) rfl rfl (by rw [← hY2, ← hgz]; go_simp) ⟨HS.out _ (Kit.step HY.out hb3) (Kit.step HYW.out hb3), ?_⟩
          refine wpAnyH_all (rs := [11]) (by kernel_rfl) (by simp) (fun i hi => ?_)
          obtain rfl : i = 11 := by simpa using hi
          have hown2 : Y2.ownsRow W1.heap.size 5 1 u10 j (bytesV ((Da.xr b M).take j)) := own_later8 HO.out hb3
          refine op_of rfl rfl (wp_append_row (.tmp 30) (.tmp 40) rfl W1.heap.size u10 j _ (by go_simp) hown2 (some ⟨gz, 0, none⟩) 1 1 [z] (by go_simp) rfl hz3 (by omega) (Kit.step HYW.out hb3).size fun v4 Y4 hv4 hg4 => ?_)
          have hb4 := own_below (n := 0) (Kit.step HYW.out hb3) hown2 hg4
          have HX1 : Hid (RmAt (Da.xr b M) W1 v4 (.int .i64 ((j + 1 : Nat) : Int)) Y4) := Lib.hid ⟨j + 1, by omega, rfl, by rw [← HE1.out]; exact hv4, hb4⟩
          refine ⟨HS.out _ (Kit.step HB1.out hb4) hb4, ?_⟩
          refine wpAnyH_all (rs := [12]) (by kernel_rfl) (by simp) (fun i hi => ?_)
          obtain rfl : i = 12 := by simpa using hi
          refine op_value (x := v4) (v' := Y4) rfl rfl (by go_simp) ⟨HS.out _ (Kit.step HB1.out hb4) hb4, ?_⟩
          refine wpAnyH_done (by kernel_rfl) ?_ _
          clear hv4 hg4 hb4 hown2 hz3 hb3 hY2 hgz hS0
          go_wp2_with fail
          exact ⟨HX1.out, by simp [intOf]; omega⟩
        · obtain rfl : j = 8 := by omega
          have HXL : Hid ((Da.xr b M).take 8 = Da.xr b M) := Lib.hid (List.take_of_length_le (by rw [Da.xr_length, HL.out, HML.out]; decide))
          have HV : Hid (RowV (Da.mk1 k n b) u10 Y1) := Lib.hid (by rw [HM1.out]; have := owns_rv hown (by rw [List.length_take, Da.xr_length, HL.out, HML.out]; rfl); rwa [HXL.out] at this)
          have HKB : Hid (∀ base, KindB base Y1 u10) := Lib.hid (fun base => owns_kind base hown)
          have HBB := Lib.hid (Kit.step HB1.out hb)
          clear hown hb HX0
          go_wp2_with fail
          refine bodyPost_ret (results_tmp2 rfl _ _ _) rfl ?_
          exact ⟨_, by rw [HM0.out]; rfl, HV.out, HKB.out, HBB.out⟩
    · have HM1 : Hid (Da.mk1 k n b = []) := Lib.hid (by unfold Da.mk1; rw [hmb, if_neg hr])
      obtain ⟨q, hq⟩ : ∃ q, Da.rb n = q + 1 := ⟨Da.rb n - 1, by omega⟩
      have HM0 : Hid (((Da.mb b n : Nat) : Int) = ((q + 1 : Nat) : Int)) := Lib.hid (by rw [hmb, hq])
      have hq1 : (((q + 1 : Nat) : Int) != 0) = true := by rw [bne_iff_ne]; omega
      rw [hq] at RB
      obtain ⟨Q, hQ⟩ : ∃ Q : Int, ((q + 1 : Nat) : Int) = Q := ⟨_, rfl⟩
      rw [hQ] at RB HM0 hq1
      clear hmb hr hq hQ
      go_enter Tryd.func12, Tryd.ntmps12
      go_wp2_with fail
      refine RB.out.mono ?_
      rintro e W1 ⟨x, rfl, _, hb1⟩
      have HB1 := Lib.hid hb1
      clear hb1 RB
      go_wp2_with fail
      refine bodyPost_ret (results_tmp2 rfl _ _ _) rfl ?_
      exact ⟨_, by rw [HM0.out]; rfl, by rw [HM1.out]; exact RowV.nil _, fun base ad l c e => (by cases e), HB1.out⟩
  · have hm : Da.mb b n = 8 := by
      unfold Da.mb
      rw [hL, if_neg h8]
    have HM1 : Hid (Da.mk1 k n b = []) := Lib.hid (by unfold Da.mk1; rw [hm, if_neg (by decide)])
    have HM0 : Hid (((Da.mb b n : Nat) : Int) = 8) := Lib.hid (by rw [hm]; rfl)
    have hd1 : ((L : Int) != 8) = true := by rw [bne_iff_ne]; omega
    clear hK hB hV hL RB hm
    go_enter Tryd.func12, Tryd.ntmps12
    go_wp2_with fail
    refine bodyPost_ret (results_tmp2 rfl _ _ _) rfl ?_
    exact ⟨_, by rw [HM0.out]; rfl, by rw [HM1.out]; exact RowV.nil _, fun base ad l c e => (by cases e), Below.refl _ _⟩
end Go.Proofs.YtaanjlbkncfnbaaDoor
