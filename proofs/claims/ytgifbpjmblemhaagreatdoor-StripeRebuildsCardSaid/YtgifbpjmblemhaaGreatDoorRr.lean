/- Contracts of the document's answers for polynomials, by definition: At, Trim, Eval. Contracts of the document's product, sum and value, coefficient by coefficient. Contracts of the document's value and sum, and of Zeros. Contracts of the document's sum, and of Zeros. -/
import Derived.Test.YtgifbpjmblemhaaGreatDoorApw
import Derived.Test.YtgifbpjmblemhaaGreatDoorFwm
namespace Go.Proofs.YtgifbpjmblemhaaGreatDoor
open Go.RowKit
set_option linter.unusedVariables false
set_option linter.unusedSimpArgs false
theorem at_any (p : List UInt8) (i : Nat) (o : Option Addr) (c : Nat) (w : World) (hP : RowIs w o (bytesV p) c) (hi : i ≤ 1000000) :
    Calls Tryz.prog 47 #[.slice o p.length c, .int .i64 (i : Int)] w fun e w' => e = .returned (.int .u8 ((co p i).toNat : Int)) ∧ w' = w := by
  have h1 := hP.le
  have h2 := hP.cap
  simp only [bytesV_length] at h1
  unfold maxLen at h2
  by_cases hlt : i < p.length
  · obtain ⟨b1, off1, rfl, hb1, hcell⟩ := hP.cells (by simp; omega)
    have hc1 : w.cell? ⟨b1, off1 + i, none⟩ = some (.int .u8 ((co p i).toNat : Int)) := hcell i _ (bytesV_get p i hlt)
    have hx := UInt8.toNat_lt (co p i)
    clear hcell hP
    generalize co p i = x at *
    go_enter Tryz.func47, Tryz.ntmps47
    go_wp2
    go_ret
    exact ⟨rfl, rfl⟩
  · have e : co p i = 0 := co_ge (by omega)
    rw [e]
    clear hP e
    go_enter Tryz.func47, Tryz.ntmps47
    go_wp2
    go_ret
    exact ⟨rfl, rfl⟩
def RtAt (p : List UInt8) (n : Value) : Prop := ∃ k : Nat, k ≤ p.length ∧ tl p p.length = tl p k ∧ n = .int .i64 k
theorem rtrim_any (p : List UInt8) (o : Option Addr) (c : Nat) (w : World) (hP : RowIs w o (bytesV p) c) (hl : p.length ≤ 1000000) :
    Calls Tryz.prog 46 #[.slice o p.length c] w (Rows (tr p) w) := by
  have h1 := hP.le
  have h2 := hP.cap
  simp only [bytesV_length] at h1
  unfold maxLen at h2
  have HP := Lib.hid hP
  clear hP
  have hb0 : Below w.heap.size w (w.alloc (.cells #[] 5)) := (Below.refl _ _).alloc (Nat.le_refl _) _
  have hown : (w.alloc (.cells #[] 5)).ownsRow w.heap.size 5 1 (.slice (some ⟨w.heap.size, 0, none⟩) 0 0) 0 (bytesV []) := World.ownsRow_lit w #[] 0 (Nat.le_refl _) (Nat.zero_le _) rfl
  have HB0 := Lib.hid hb0
  have HOWN := Lib.hid hown
  have HR0 := Lib.hid ((HP.out.later hb0).take (tl p p.length))
  have htl := tl_le p p.length
  have HLEN := Lib.hid (tr_length p)
  clear hb0 hown
  go_enter Tryz.func46, Tryz.ntmps46
  go_wp2_with fail
  go_loop [3] (fun n => RtAt p n) (fun n => (intOf n).toNat)
  case atStart => exact ⟨p.length, Nat.le_refl _, rfl, rfl⟩
  case round =>
    obtain ⟨k, hk, ht, rfl⟩ := hrel
    cases k with
    | zero =>
      have ht2 : tl p p.length = 0 := ht
      obtain ⟨m, hm⟩ : ∃ m, tl p p.length = m := ⟨_, rfl⟩
      have HR1 : Hid (RowIs (w.alloc (.cells #[] 5)) o (bytesV (tr p)) c) := HR0
      have HL0 : Hid ((tr p).length = 0) := Lib.hid (by rw [HLEN.out, ht2])
      clear ht ht2 hm htl
      go_wp2_with (at_builtin; refine append_row rfl (.tmp 18) (.tmp 21) rfl w.heap.size _ 0 [] rfl HOWN.out o 0 c (tr p) rfl HL0.out.symm HR1.out (by omega) HB0.out.size ?_)
      intro v' w' hv hg
      have hb := own_below (n := 0) HB0.out HOWN.out hg
      have hr := owns_rv hv HL0.out.symm
      go_wp2
      go_ret
      exact ⟨v', rfl, by simpa using hr, hb⟩
    | succ k =>
      obtain ⟨b1, off1, rfl, hb1, hcell⟩ := HP.out.cells (by simp; omega)
      have hc1 : w.cell? ⟨b1, off1 + k, none⟩ = some (.int .u8 ((co p k).toNat : Int)) := hcell k _ (bytesV_get p k (by omega))
      have hx := UInt8.toNat_lt (co p k)
      clear hcell
      by_cases h0 : co p k = 0
      · rw [h0] at hc1
        have ht2 : tl p p.length = tl p k := by rw [ht, tl, if_pos h0]
        have HT := Lib.hid ht2
        clear ht ht2
        go_wp2
        go_round
        case rel => exact ⟨k, by omega, HT.out, by go_num⟩
        case measure => simp [intOf]
      · have h00 : ¬ (co p k).toNat = 0 := fun e => h0 (Gf.u8_ext e)
        have ht2 : tl p p.length = k + 1 := by rw [ht, tl, if_neg h0]
        have HR1 : Hid (RowIs (w.alloc (.cells #[] 5)) (some ⟨b1, off1, none⟩) (bytesV (tr p)) c) := HR0
        have HL0 : Hid ((tr p).length = k + 1) := Lib.hid (by rw [HLEN.out, ht2])
        clear ht ht2 htl
        generalize co p k = x at *
        go_wp2_with (at_builtin; refine append_row rfl (.tmp 18) (.tmp 21) rfl w.heap.size _ 0 [] rfl HOWN.out _ (k + 1) c (tr p) rfl HL0.out.symm HR1.out (by omega) HB0.out.size ?_)
        intro v' w' hv hg
        have hb := own_below (n := 0) HB0.out HOWN.out hg
        have hr := owns_rv hv HL0.out.symm
        go_wp2
        go_ret
        exact ⟨v', rfl, by simpa using hr, hb⟩
end Go.Proofs.YtgifbpjmblemhaaGreatDoor
namespace Go.Proofs.YtgifbpjmblemhaaGreatDoor
open Go.RowKit
set_option linter.unusedVariables false
set_option linter.unusedSimpArgs false
theorem rmul_u8 (x y : UInt8) (v : World) : Calls Tryz.prog 45 #[.int .u8 (x.toNat : Int), .int .u8 (y.toNat : Int)] v fun e w' => e = .returned (.int .u8 ((Gf.gm x y).toNat : Int)) ∧ w' = v := by
  rw [Gf.gm_nat]; exact (rmul_nat _ _ (UInt8.toNat_lt _) (UInt8.toNat_lt _) v).mono fun _ _ h => ⟨h.1, h.2.symm⟩
def cf (p q : List UInt8) (k : Nat) : UInt8 := Gf.sm (fun i => Gf.gm (co p i) (co q (k - i))) (k + 1)
theorem tab_cf (p q : List UInt8) : tab (cf p q) (p.length + q.length) = mulL p q := by
  refine list_ext (by simp [mulL]) fun i hi => ?_
  rw [co_tab _ _ _ (by simpa using hi), co_mulL']; rfl
theorem tab_succ (F : Nat → UInt8) (k : Nat) : tab F k ++ [F k] = tab F (k + 1) := by simp [tab, List.range_succ]
theorem own_dn {W W' : World} {n : Nat} {v : Value} {xs : List Value} {m : Nat} (h : W.ownsRow n 5 1 v m xs) (hd : Kit.Dn W W') : W'.ownsRow n 5 1 v m xs := by
  obtain ⟨k, rfl⟩ := hd
  exact h
def RoAt (p q : List UInt8) (w : World) (v kv : Value) (wr : World) : Prop :=
  ∃ k : Nat, k ≤ p.length + q.length ∧ kv = .int .i64 k ∧ wr.ownsRow w.heap.size 5 1 v k (bytesV (tab (cf p q) k)) ∧ Below w.heap.size w wr
def RiAt (p q : List UInt8) (k : Nat) (w : World) (c iv : Value) (wr : World) : Prop :=
  ∃ i : Nat, i ≤ k + 1 ∧ iv = .int .i64 i ∧ c = .int .u8 ((Gf.sm (fun i => Gf.gm (co p i) (co q (k - i))) i).toNat : Int) ∧ Kit.Dn w wr
set_option maxRecDepth 100000 in
set_option maxHeartbeats 2000000 in
theorem rmulp_any (p q : List UInt8) (o o2 : Option Addr) (c c2 : Nat) (w : World) (hP : RowIs w o (bytesV p) c) (hQ : RowIs w o2 (bytesV q) c2) (hl : p.length + q.length ≤ 100000) :
    Calls Tryz.prog 43 #[.slice o p.length c, .slice o2 q.length c2] w (Rows (tr (mulL p q)) w) := by
  have h1 := hP.le
  have h2 := hP.cap
  have h3 := hQ.le
  have h4 := hQ.cap
  simp only [bytesV_length] at h1 h3
  unfold maxLen at h2 h4
  have HP := Lib.hid hP
  have HQ := Lib.hid hQ
  clear hP hQ
  have hb0 : Below w.heap.size w (w.alloc (.cells #[] 5)) := (Below.refl _ _).alloc (Nat.le_refl _) _
  have hown : (w.alloc (.cells #[] 5)).ownsRow w.heap.size 5 1 (.slice (some ⟨w.heap.size, 0, none⟩) 0 0) 0 (bytesV (tab (cf p q) 0)) := World.ownsRow_lit w #[] 0 (Nat.le_refl _) (Nat.zero_le _) rfl
  have HB0 := Lib.hid hb0
  have HOWN := Lib.hid hown
  clear hb0 hown
  go_enter Tryz.func43, Tryz.ntmps43
  go_wp2_with fail
  go_loopw [5, 6] (fun v kv wr => RoAt p q w v kv wr) (fun _ kv _ => p.length + q.length - (intOf kv).toNat)
  case atStart => exact ⟨0, Nat.zero_le _, rfl, HOWN.out, HB0.out⟩
  case round =>
    obtain ⟨k, hk, rfl, hv, hb⟩ := hrel
    have HV := Lib.hid hv
    have HB := Lib.hid hb
    clear hv hb
    by_cases hlt : k < p.length + q.length
    · have hd1 : decide ((k : Int) < (p.length : Int) + (q.length : Int)) = true := by simpa using (by omega : (k : Int) < (p.length : Int) + (q.length : Int))
      go_wp2_with fail
      go_loopw [7, 8] (fun c iv w2 => RiAt p q k wr c iv w2) (fun _ iv _ => k + 1 - (intOf iv).toNat)
      case atStart => exact ⟨0, Nat.zero_le _, rfl, rfl, Kit.Dn.refl _⟩
      case round =>
        rename_i w2 _ _
        obtain ⟨i, hi, rfl, rfl, hd⟩ := hrel
        have HD := Lib.hid hd
        clear hd
        have hbw : Below w.heap.size w _ := Kit.step HB.out HD.out.below
        have HPW := Lib.hid (HP.out.later hbw)
        have HQW := Lib.hid (HQ.out.later hbw)
        have HBW := Lib.hid hbw
        clear hbw
        by_cases hik : i < k + 1
        · have AP := Lib.hid (at_any p i o c _ HPW.out (by omega))
          have aq := at_any q (k - i) o2 c2 _ HQW.out (by omega)
          rw [show ((k - i : Nat) : Int) = (k : Int) - (i : Int) by omega] at aq
          have AQ := Lib.hid aq
          have HS : Hid (Gf.sm (fun i => Gf.gm (co p i) (co q (k - i))) (i + 1) = Gf.sm (fun i => Gf.gm (co p i) (co q (k - i))) i ^^^ Gf.gm (co p i) (co q (k - i))) := Lib.hid rfl
          have hpl := fun h => co_lt (ys := p) (i := i) h
          have hql := fun h => co_lt (ys := q) (i := k - i) h
          have hcp : Hid (∀ h : i < p.length, ∃ b off, o = some ⟨b, off, none⟩ ∧ _) := Lib.hid fun h => by
            obtain ⟨b1, off1, e, _, hcell⟩ := HPW.out.cells (by simp; omega)
            exact ⟨b1, off1, e, hcell i _ (bytesV_get p i h)⟩
          have hcq : Hid (∀ h : k - i < q.length, ∃ b off, o2 = some ⟨b, off, none⟩ ∧ _) := Lib.hid fun h => by
            obtain ⟨b1, off1, e, _, hcell⟩ := HQW.out.cells (by simp; omega)
            exact ⟨b1, off1, e, hcell (k - i) _ (bytesV_get q (k - i) h)⟩
          rw [show (p.getD i 0) = co p i from rfl] at hcp
          rw [show (q.getD (k - i) 0) = co q (k - i) from rfl] at hcq
          clear aq
          generalize hs : Gf.sm (fun i => Gf.gm (co p i) (co q (k - i))) i = s at *
          generalize co p i = x at *
          generalize co q (k - i) = y at *
          have hsl := UInt8.toNat_lt s
          have hxl := UInt8.toNat_lt x
          have hyl := UInt8.toNat_lt y
          have HSS := Lib.hid hs
          clear hs
          by_cases h0 : x = 0
          · subst h0
            have e : s ^^^ Gf.gm 0 y = s := by rw [Gf.zero_gm, UInt8.xor_zero]
            rw [e] at HS
            clear e hpl hql hcp hcq AQ
            go_wp2_with fail
            refine AP.out.mono ?_; rintro e w' ⟨rfl, rfl⟩
            go_wp2_with fail
            go_roundw
            case rel => exact ⟨i + 1, by omega, by go_num, by rw [HS.out], HD.out⟩
            case measure => simp [intOf]; omega
          · have h00 : ¬ x.toNat = 0 := fun e => h0 (Gf.u8_ext e)
            have hx1 : ((x.toNat : Int) == 0) = false := by simpa using h00
            have hx2 : ((x.toNat : Int) != 0) = true := by simp [bne, hx1]
            by_cases g0 : y = 0
            · subst g0
              have e : s ^^^ Gf.gm x 0 = s := by rw [Gf.gm_zero, UInt8.xor_zero]
              rw [e] at HS
              clear e hpl hql hcp hcq
              go_wp2_with fail
              refine AP.out.mono ?_; rintro e w' ⟨rfl, rfl⟩
              go_wp2_with fail
              refine AQ.out.mono ?_; rintro e w' ⟨rfl, rfl⟩
              go_wp2_with fail
              go_roundw
              case rel => exact ⟨i + 1, by omega, by go_num, by rw [HS.out], HD.out⟩
              case measure => simp [intOf]; omega
            · have g00 : ¬ y.toNat = 0 := fun e => g0 (Gf.u8_ext e)
              have hy1 : ((y.toNat : Int) == 0) = false := by simpa using g00
              have hy2 : ((y.toNat : Int) != 0) = true := by simp [bne, hy1]
              have hil := hpl h0
              have hjl := hql g0
              obtain ⟨b1, off1, rfl, hc1⟩ := hcp.out hil
              obtain ⟨b2, off2, rfl, hc2⟩ := hcq.out hjl
              have hj0 : (0 : Int) ≤ (k : Int) - (i : Int) := by omega
              have hj1 : (k : Int) - (i : Int) < (q.length : Int) := by omega
              have hj2 : ((k : Int) - (i : Int)).toNat = k - i := by omega
              have hwr : IntKind.i64.wrap ((k : Int) - (i : Int)) = (k : Int) - (i : Int) := by simp [IntKind.wrap, IntKind.signed, IntKind.bits]; omega
              have hxr := u8c s (Gf.gm x y)
              have MC : Hid (∀ v : World, Calls Tryz.prog 45 #[.int .u8 (x.toNat : Int), .int .u8 (y.toNat : Int)] v fun e w' => e = .returned (.int .u8 ((Gf.gm x y).toNat : Int)) ∧ w' = v) := Lib.hid fun v => rmul_u8 x y v
              generalize Gf.gm x y = t at *
              generalize s ^^^ t = r at *
              have htl := UInt8.toNat_lt t
              clear hpl hql hcp hcq hj2 hjl
              go_wp2_with fail
              refine AP.out.mono ?_; rintro e w' ⟨rfl, rfl⟩
              go_wp2_with fail
              refine AQ.out.mono ?_; rintro e w' ⟨rfl, rfl⟩
              go_wp2_with fail
              go_quiet ((go_at_call 45; exact Calls.quiet_of_same (MC.out _)))
              go_wp2
              go_roundw
              case rel => exact ⟨i + 1, by omega, by go_num, by rw [HS.out], HD.out.add _⟩
              case measure => simp [intOf]; omega
        · obtain rfl : i = k + 1 := by omega
          have HC : Hid (Gf.sm (fun i => Gf.gm (co p i) (co q (k - i))) (k + 1) = cf p q k) := Lib.hid rfl
          rw [HC.out]
          have HN := Lib.hid HBW.out.size
          generalize hcf : cf p q k = x at *
          have hxl := UInt8.toNat_lt x
          have HTS := Lib.hid (tab_succ (cf p q) k)
          rw [hcf] at HTS
          have HCF := Lib.hid hcf
          clear hcf
          have HV2 := Lib.hid ((own_dn HV.out HD.out).alloc (.cells (bytesV [x]).toArray 5))
          have HB2 := Lib.hid (HBW.out.alloc HBW.out.size (.cells (bytesV [x]).toArray 5))
          go_wp2_with (at_builtin; refine append_row rfl (.tmp 49) (.tmp 51) rfl w.heap.size _ k (tab (cf p q) k) rfl HV2.out _ 1 1 [x] rfl rfl (row_cells (World.alloc_heap_new _ _) (by unfold maxLen; simp)) (by omega) HB2.out.size ?_)
          intro v' w' hv hg
          rw [HTS.out] at hv
          have HV3 := Lib.hid hv
          have HB3 := Lib.hid (own_below (n := 0) HB2.out HV2.out hg)
          clear hv hg
          go_wp2
          go_roundw
          case rel => exact ⟨k + 1, by omega, by go_num, HV3.out, HB3.out⟩
          case measure => simp [intOf]; omega
    · obtain rfl : k = p.length + q.length := by omega
      have hd1 : decide (((p.length + q.length : Nat) : Int) < (p.length : Int) + (q.length : Int)) = false := by simp
      obtain ⟨o3, c3, rfl, hr⟩ := owns_rv HV.out (by simp)
      have hcal := rtrim_any _ _ _ _ hr (by simp; omega)
      rw [tab_cf, show (mulL p q).length = p.length + q.length by simp [mulL]] at hcal
      have HCAL := Lib.hid hcal
      have hlen : (tab (cf p q) (p.length + q.length)).length = p.length + q.length := by simp
      clear hcal hr
      go_wp2_with fail
      refine HCAL.out.mono ?_; rintro e w' ⟨x, rfl, hr, hb⟩
      have HR := Lib.hid hr
      have HB2 := Lib.hid (Kit.step HB.out hb)
      clear hr hb
      go_wp2_with fail
      go_ret
      exact ⟨x, rfl, HR.out, HB2.out⟩
end Go.Proofs.YtgifbpjmblemhaaGreatDoor
namespace Go.Proofs.YtgifbpjmblemhaaGreatDoor
open Go.RowKit
set_option linter.unusedVariables false
set_option linter.unusedSimpArgs false
def ReAt (z : List UInt8) (x : UInt8) (out pw i : Value) : Prop :=
  ∃ k : Nat, k ≤ z.length ∧ i = .int .i64 k ∧ out = .int .u8 ((Gf.ev k (co z) x).toNat : Int) ∧ pw = .int .u8 ((Gf.px x k).toNat : Int)
theorem reval_any (z : List UInt8) (x : UInt8) (o : Option Addr) (c : Nat) (w : World) (hP : RowIs w o (bytesV z) c) :
    Calls Tryz.prog 49 #[.slice o z.length c, .int .u8 (x.toNat : Int)] w fun e w' => e = .returned (.int .u8 ((evL z x).toNat : Int)) ∧ w' = w := by
  have h1 := hP.le
  have h2 := hP.cap
  simp only [bytesV_length] at h1
  unfold maxLen at h2
  have HP := Lib.hid hP
  have hx := UInt8.toNat_lt x
  clear hP
  go_enter Tryz.func49, Tryz.ntmps49
  go_wp2
  go_loop [5, 6, 8, 11] (fun out pw _ i => ReAt z x out pw i) (fun _ _ _ i => z.length - (intOf i).toNat)
  case atStart => exact ⟨0, Nat.zero_le _, rfl, rfl, rfl⟩
  case round =>
    obtain ⟨k, hk, rfl, rfl, rfl⟩ := hrel
    by_cases hlt : k < z.length
    · obtain ⟨b1, off1, rfl, hb1, hcell⟩ := HP.out.cells (by simp; omega)
      have hc1 : w.cell? ⟨b1, off1 + k, none⟩ = some (.int .u8 ((co z k).toNat : Int)) := hcell k _ (bytesV_get z k hlt)
      have HE : Hid (Gf.ev (k + 1) (co z) x = Gf.ev k (co z) x ^^^ Gf.gm (co z k) (Gf.px x k)) := Lib.hid rfl
      have HX : Hid (Gf.px x (k + 1) = Gf.gm (Gf.px x k) x) := Lib.hid rfl
      have hxr := u8c (Gf.ev k (co z) x) (Gf.gm (co z k) (Gf.px x k))
      have M1 : Hid (∀ v : World, Calls Tryz.prog 45 #[.int .u8 ((co z k).toNat : Int), .int .u8 ((Gf.px x k).toNat : Int)] v fun e w' => e = .returned (.int .u8 ((Gf.gm (co z k) (Gf.px x k)).toNat : Int)) ∧ w' = v) := Lib.hid fun v => rmul_u8 _ _ v
      have M2 : Hid (∀ v : World, Calls Tryz.prog 45 #[.int .u8 ((Gf.px x k).toNat : Int), .int .u8 (x.toNat : Int)] v fun e w' => e = .returned (.int .u8 ((Gf.px x (k + 1)).toNat : Int)) ∧ w' = v) := Lib.hid fun v => by rw [HX.out]; exact rmul_u8 _ _ v
      rw [← HE.out] at hxr
      clear HE HX
      generalize Gf.gm (co z k) (Gf.px x k) = t at *
      generalize co z k = a at *
      have ha := UInt8.toNat_lt a
      have ht := UInt8.toNat_lt t
      have hs := UInt8.toNat_lt (Gf.ev k (co z) x)
      have hp := UInt8.toNat_lt (Gf.px x k)
      clear hcell
      go_wp2_with fail
      refine (M1.out _).mono ?_; rintro e w' ⟨rfl, rfl⟩
      go_wp2_with fail
      refine (M2.out _).mono ?_; rintro e w' ⟨rfl, rfl⟩
      go_wp2_with fail
      go_round
      case rel => exact ⟨k + 1, by omega, by go_num, rfl, rfl⟩
      case measure => simp [intOf]; omega
    · obtain rfl : k = z.length := by omega
      go_wp2
      go_ret
      exact ⟨rfl, rfl⟩
end Go.Proofs.YtgifbpjmblemhaaGreatDoor
namespace Go.Proofs.YtgifbpjmblemhaaGreatDoor
open Go.RowKit
set_option linter.unusedVariables false
set_option linter.unusedSimpArgs false
def RaAt (p q : List UInt8) (w : World) (v kv : Value) (wr : World) : Prop :=
  ∃ k : Nat, k ≤ max p.length q.length ∧ kv = .int .i64 k ∧ wr.ownsRow w.heap.size 5 1 v k (bytesV (tab (fun i => co p i ^^^ co q i) k)) ∧ Below w.heap.size w wr
/-- where a polynomial is 0, of the first k numbers -/
def zl (p : List UInt8) : Nat → List UInt8
  | 0 => []
  | k + 1 => if evL p (UInt8.ofNat k) = 0 then zl p k ++ [UInt8.ofNat k] else zl p k
theorem zl_length (p : List UInt8) (k : Nat) : (zl p k).length ≤ k := by
  induction k with
  | zero => exact Nat.le_refl _
  | succ k ih =>
    rw [zl]
    split
    · simp; omega
    · omega
def ZeAt (p : List UInt8) (w : World) (T : Nat) (C : Array Value) (v kv : Value) (wr : World) : Prop :=
  ∃ k : Nat, k ≤ 256 ∧ kv = .int .i64 k ∧ wr.ownsRow w.heap.size 5 1 v (zl p k).length (bytesV (zl p k)) ∧ Below w.heap.size w wr ∧ TabAt wr T C
set_option maxRecDepth 100000 in
set_option maxHeartbeats 1000000 in
theorem zeros_any (p : List UInt8) (o : Option Addr) (c : Nat) (w : World) (hP : RowIs w o (bytesV p) c) :
    Calls Tryz.prog 80 #[.slice o p.length c] w (Rows (zl p 256) w) := by
  have HP := Lib.hid hP
  clear hP
  go_enter Tryz.func80, Tryz.ntmps80
  go_wp2_with fail
  refine (make_any _).mono ?_; rintro e w1 ⟨n, C, hC, rfl, hw1⟩
  have hT1 : TabAt w1 w.heap.size C := by rw [hw1]; exact TabAt.made hC
  have hb1 : Below w.heap.size w w1 := by rw [hw1]; exact made_below
  have HB1 := Lib.hid hb1
  have HT1 := Lib.hid hT1
  have HP1 := Lib.hid (HP.out.later hb1)
  clear hC hT1 hb1 hw1
  go_wp2_with fail
  go_loopw [3, 5, 7] (fun v _ kv wr => ZeAt p w1 w.heap.size C v kv wr) (fun _ _ kv _ => 256 - (intOf kv).toNat)
  case atStart => exact ⟨0, by omega, rfl, World.ownsRow_nil _ _ _ _, Below.refl _ _, HT1.out⟩
  case round =>
    obtain ⟨k, hk, rfl, hv, hb, ht⟩ := hrel
    have HV := Lib.hid hv
    have HB := Lib.hid hb
    have HT := Lib.hid ht
    by_cases hlt : k < 256
    · obtain ⟨x, hx⟩ : ∃ x, UInt8.ofNat k = x := ⟨_, rfl⟩
      have hxk : x.toNat = k := by rw [← hx, UInt8.toNat_ofNat']; omega
      have hval := value_any p x w.heap.size C o c wr (HP1.out.later hb) ht
      rw [hxk] at hval
      have HVAL := Lib.hid hval
      have hm1 : (k : Int) % 256 = (k : Int) := by omega
      have hzl := zl_length p k
      have HZ : Hid (zl p (k + 1) = if evL p x = 0 then zl p k ++ [x] else zl p k) := Lib.hid (by rw [← hx]; rfl)
      have HXK := Lib.hid hxk
      clear hval hv hb ht hx hxk
      generalize evL p x = y at *
      have hyl := UInt8.toNat_lt y
      by_cases h0 : y = 0
      · subst h0
        have hz0 : Hid (zl p (k + 1) = zl p k ++ [x]) := Lib.hid (by rw [HZ.out, if_pos rfl])
        go_wp2_with fail
        refine HVAL.out.mono ?_; rintro e w2 ⟨rfl, hd⟩
        have hbd := (Kit.step HB.out hd.below)
        have HCE : Hid ((.cells #[.int .u8 (k : Int)] 5 : Obj) = .cells (bytesV [x]).toArray 5) := Lib.hid (by
          have := HXK.out
          simp [bytesV, this])
        have HV2 := Lib.hid ((own_dn HV.out hd).alloc (.cells #[.int .u8 (k : Int)] 5))
        have HB2 := Lib.hid (hbd.alloc hbd.size (.cells #[.int .u8 (k : Int)] 5))
        have HT2 := Lib.hid ((HT.out.later hd.below).later ((Below.refl w2.heap.size w2).alloc (Nat.le_refl _) (.cells #[.int .u8 (k : Int)] 5)))
        have HROW : Hid (RowIs (w2.alloc (.cells #[.int .u8 (k : Int)] 5)) (some ⟨w2.heap.size, 0, none⟩) (bytesV [x]) 1) := Lib.hid (by
          rw [HCE.out]; exact row_cells (World.alloc_heap_new _ _) (by unfold maxLen; simp))
        clear hd hbd
        go_wp2_with (at_builtin; refine append_row rfl (.tmp 16) (.tmp 19) rfl w1.heap.size _ (zl p k).length (zl p k) rfl HV2.out _ 1 1 [x] rfl rfl HROW.out (by omega) HB2.out.size ?_)
        intro v' w3 hv hg
        have hb3 := own_below (n := 0) HB2.out HV2.out hg
        have hlt2 : w.heap.size < w1.heap.size := (Array.getElem?_eq_some_iff.1 HT1.out.block).1
        have ht3 : TabAt w3 w.heap.size C := ⟨by rw [hb3.block _ hlt2]; exact HT1.out.block, HT1.out.tab⟩
        have hv3 : w3.ownsRow w1.heap.size 5 1 v' (zl p (k + 1)).length (bytesV (zl p (k + 1))) := by
          rw [hz0.out]
          simpa using hv
        have HV3 := Lib.hid hv3
        have HB3 := Lib.hid hb3
        have HT3 := Lib.hid ht3
        clear hv hg hb3 hlt2 ht3 hv3
        go_wp2
        go_roundw
        case rel => exact ⟨k + 1, by omega, by go_num, HV3.out, HB3.out, HT3.out⟩
        case measure => simp [intOf]; omega
      · have h00 : ¬ y.toNat = 0 := fun e => h0 (Gf.u8_ext e)
        have hy1 : ((y.toNat : Int) == 0) = false := by simpa using h00
        have hz0 : Hid (zl p (k + 1) = zl p k) := Lib.hid (by rw [HZ.out, if_neg h0])
        go_wp2_with fail
        refine HVAL.out.mono ?_; rintro e w2 ⟨rfl, hd⟩
        have HD := Lib.hid hd
        clear hd
        go_wp2_with fail
        go_roundw
        case rel => exact ⟨k + 1, by omega, by go_num, by rw [hz0.out]; exact own_dn HV.out HD.out, Kit.step HB.out HD.out.below, HT.out.later HD.out.below⟩
        case measure => simp [intOf]; omega
    · obtain rfl : k = 256 := by omega
      have hr := owns_rv hv rfl
      have HR := Lib.hid hr
      clear hv hb ht hr
      go_wp2_with fail
      go_ret
      exact ⟨_, rfl, HR.out, Kit.step HB1.out HB.out⟩
end Go.Proofs.YtgifbpjmblemhaaGreatDoor
