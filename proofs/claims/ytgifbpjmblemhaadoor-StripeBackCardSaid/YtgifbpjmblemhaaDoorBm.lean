/- The code's parity blocks of a group; slices.Concat over rows of blocks and over blocks. -/
import Derived.Test.YtgifbpjmblemhaaDoorBl
namespace Go.Proofs.YtgifbpjmblemhaaDoor
open Go.RowKit
set_option linter.unusedVariables false
set_option linter.unusedSimpArgs false
def pM (D : List (List UInt8)) (k : Nat) (i j : Nat) : UInt8 := if j < k then co (parL (colB D j)) i else 0
theorem pM_step (D : List (List UInt8)) (k i b : Nat) (hi : i < 32) : layM (pM D k) (parL (colB D k)) k 32 i b = pM D (k + 1) i b := by
  unfold layM pM
  by_cases h : b = k
  · subst h
    rw [if_pos ⟨rfl, hi⟩, if_pos (by omega)]
  · rw [if_neg (fun g => h g.1)]
    by_cases h2 : b < k
    · rw [if_pos h2, if_pos (by omega)]
    · rw [if_neg h2, if_neg (by omega)]
def PyAt (D : List (List UInt8)) (gO : Nat) (Gb : Nat → Nat) (w : World) (iv : Value) (wr : World) : Prop :=
  ∃ k : Nat, k ≤ 8 ∧ iv = .int .i64 k ∧ Mat8 wr w.heap.size gO 32 Gb (pM D k) ∧ Below w.heap.size w wr
theorem Mat8.later {W W' : World} {B gO R : Nat} {Gb : Nat → Nat} {m : Nat → Nat → UInt8} (h : Mat8 W B gO R Gb m) (hb : Below W.heap.size W W') : Mat8 W' B gO R Gb m := Mat.later h hb
theorem Mat8.congr {W : World} {B gO R : Nat} {Gb : Nat → Nat} {m m' : Nat → Nat → UInt8} (h : Mat8 W B gO R Gb m) (he : ∀ i j, i < R → j < 8 → m i j = m' i j) : Mat8 W B gO R Gb m' := Mat.congr h he
set_option maxRecDepth 100000 in
set_option maxHeartbeats 1000000 in
theorem parity_any (D : List (List UInt8)) (o : Option Addr) (n c : Nat) (w : World) (hP : RbIs w o D c) (hn : D.length = n) (hl1 : 1 ≤ n) (hl2 : n ≤ 223) :
    Calls Tryd.prog 24 #[.slice o n c] w fun e w' => ∃ gO Gb, e = .returned (.tuple #[.slice (some ⟨gO, 0, none⟩) 32 32, .nilIface]) ∧ Mat8 w' w.heap.size gO 32 Gb (pM D 8) ∧ Below w.heap.size w w' := by
  have h1 := hP.le.1
  have h2 := hP.le.2
  rw [hn] at h1
  unfold maxLen at h2
  have HP := Lib.hid hP
  have HN := Lib.hid hn
  have HBK : Hid (Calls Tryd.prog 36 #[.int .i64 32] w fun e w' => ∃ gO Gb, e = .returned (.slice (some ⟨gO, 0, none⟩) 32 32) ∧ Mat8 w' w.heap.size gO 32 Gb (fun _ _ => 0) ∧ Below w.heap.size w w') := Lib.hid (blank_any 32 w (by omega))
  clear hP hn
  go_enter Tryd.func24, Tryd.ntmps24
  go_wp2_with fail
  refine HBK.out.mono ?_; rintro e w1 ⟨gO, Gb, rfl, hm, hb⟩
  have HM0 : Hid (Mat8 w1 w.heap.size gO 32 Gb (pM D 0)) := Lib.hid (hm.congr fun i j _ _ => by unfold pM; rw [if_neg (by omega)])
  have HB0 := Lib.hid hb
  clear hm hb HBK
  go_wp2_with fail
  go_loopw [5, 6, 7, 9] (fun _ _ _ iv wr => PyAt D gO Gb w iv wr) (fun _ _ _ iv _ => 8 - (intOf iv).toNat)
  case atStart => exact ⟨0, Nat.zero_le _, rfl, HM0.out, HB0.out⟩
  case round =>
    obtain ⟨k, hk, rfl, hm, hb⟩ := hrel
    have HM := Lib.hid hm
    have HB := Lib.hid hb
    by_cases hlt : k < 8
    · have hk0 : (0 : Int) ≤ (k : Int) := by omega
      have hk1 : (k : Int) < 8 := by omega
      have hcl := column_any D o n c (k : Int) wr (HP.out.later hb) HN.out (by omega) (by omega)
      rw [show ((k : Int) % 8).toNat = k by omega] at hcl
      have HCL := Lib.hid hcl
      clear hm hb hcl
      go_wp2_with fail
      refine HCL.out.mono ?_; rintro e w2 ⟨g, cap, rfl, hg, hbuf, hb2⟩
      have hpa := cpar_any (colB D k) (some ⟨g, 0, none⟩) cap w2 hbuf.row (by rw [colB_length, HN.out]; exact hl1) (by rw [colB_length, HN.out]; exact hl2)
      rw [colB_length, HN.out] at hpa ⊢
      have HPA := Lib.hid hpa
      have HB2 := Lib.hid (Kit.step HB.out hb2)
      have HM2 := Lib.hid (HM.out.later hb2)
      clear hg hbuf hb2 hpa HCL
      go_wp2_with fail
      refine HPA.out.mono ?_; rintro e w3 ⟨r, x, hr, hc, rfl, ⟨o3, c3, rfl, hrow⟩, hb3⟩
      obtain rfl := parL_only hc hr (by rw [colB_length, HN.out]; exact hl2)
      have HB3 := Lib.hid (Kit.step HB2.out hb3)
      have hly := lay_any w.heap.size gO 32 Gb (pM D k) (parL (colB D k)) k c3 o3 w3 (HM2.out.later hb3) hrow hlt (by rw [hr]; omega) (by rw [hr]; omega) HB3.out.size
      rw [hr] at hly ⊢
      have HLY := Lib.hid hly
      have HST := Lib.hid (pM_step D k)
      clear hr hc hrow hb3 hly HPA
      go_wp2_with fail
      refine HLY.out.mono ?_; rintro e w4 ⟨rfl, hm4, hb4⟩
      have HM4 : Hid (Mat8 w4 w.heap.size gO 32 Gb (pM D (k + 1))) := Lib.hid (hm4.congr fun i b hi _ => HST.out i b hi)
      have HB4 := Lib.hid (HB3.out.trans hb4)
      clear hm4 hb4 HLY
      go_wp2_with fail
      go_roundw
      case rel => exact ⟨k + 1, by omega, by go_num, HM4.out, HB4.out⟩
      case measure => simp [intOf]; omega
    · obtain rfl : k = 8 := by omega
      clear hm hb
      go_wp2_with fail
      go_ret2
      exact ⟨gO, Gb, rfl, HM.out, HB.out⟩
theorem pM_bi (D : List (List UInt8)) (i : Nat) (h : i < 32) : bi (parB D) i = tab (pM D 8 i) 8 := by
  rw [bi_parB _ _ h]
  refine list_ext (by simp) fun j hj => ?_
  have hj : j < 8 := by simpa using hj
  rw [co_tab _ _ _ hj, co_tab _ _ _ hj]
  unfold pM
  rw [if_pos hj]
/-- lists one behind the other -/
def catB (F : Nat → List (List UInt8)) : Nat → List (List UInt8)
  | 0 => []
  | k + 1 => catB F k ++ F k
/-- how long they are -/
def lenB (F : Nat → List (List UInt8)) : Nat → Nat
  | 0 => 0
  | k + 1 => lenB F k + (F k).length
theorem catB_length (F : Nat → List (List UInt8)) (k : Nat) : (catB F k).length = lenB F k := by
  induction k with
  | zero => rfl
  | succ k ih => simp [catB, lenB, ih]
theorem lenB_mono (F : Nat → List (List UInt8)) (k d : Nat) : lenB F k ≤ lenB F (k + d) := by
  induction d with
  | zero => exact Nat.le_refl _
  | succ d ih => exact Nat.le_trans ih (Nat.le_add_right _ _)
set_option maxRecDepth 100000 in
theorem growB_nil (n : Nat) (w : World) (h0 : 0 < n) (hl : n ≤ 10000) :
    Calls Tryd.prog 40 #[.slice none 0 0, .int .i64 n] w fun e w' => ∃ g cap, e = .returned (.slice (some ⟨g, 0, none⟩) 0 cap) ∧ w'.ownsRow w.heap.size 22 1 (.slice (some ⟨g, 0, none⟩) 0 cap) 0 [] ∧ Below w.heap.size w w' := by
  obtain ⟨i1, hi1, hy0, hy1, hy2⟩ := info_parts info_rowB
  have hd1 : decide ((n : Int) < 0) = false := decide_eq_false (by omega)
  have hd2 : decide ((0 : Int) < (n : Int)) = true := decide_eq_true (by omega)
  have hrun := Lib.run_append_nil_zeros (P := Tryd.prog) w 25 3 25 22 i1 (.slice none 0 0) .i64 .i64 Tryd.underlying25 Tryd.underlying3 hi1 hy0 n h0 (by omega) (by omega) (by rw [hy2]; omega)
  obtain ⟨cap, hcap⟩ : ∃ cap, grownCap w n 0 22 = cap := ⟨_, rfl⟩
  have hge := grownCap_ge w n 0 22
  have hcm := grownCap_le_maxLen w n 0 22 (by unfold maxLen; omega)
  rw [hcap] at hrun hge hcm
  obtain ⟨w2, hw2⟩ : ∃ w2, w.drew.alloc (.cells (Builtin.zeroCells (Value.slice none 0 0).cells n ++ Builtin.zeroCells (Value.slice none 0 0).cells (cap - n)) 22) = w2 := ⟨_, rfl⟩
  rw [hw2] at hrun
  have HV : Hid (w2.ownsRow w.heap.size 22 1 (.slice (some ⟨w.heap.size, 0, none⟩) 0 cap) 0 []) := Lib.hid (by
    rw [← hw2]
    exact World.ownsRow_made w.drew _ cap (Nat.le_refl _) hcm (by simp [Builtin.zeroCells, Value.cells]; omega))
  have HB : Hid (Below w.heap.size w w2) := Lib.hid (by
    rw [← hw2]
    exact (show Below w.heap.size w w.drew from ⟨rfl, rfl, rfl, Nat.le_refl _, fun _ _ => rfl⟩).alloc (Nat.le_refl _) _)
  have HR := Lib.hid hrun
  unfold maxLen at hcm
  clear hrun hcap hw2
  go_enter Tryd.func40, Tryd.ntmps40
  go_wp2_with (at_builtin; refine Lib.wpList_append_run _ rfl (.tmp 20) (.tmp 21) _ _ rfl _ _ rfl rfl _ _ HR.out ?_)
  go_wp2
  go_ret
  exact ⟨w.heap.size, cap, rfl, HV.out, HB.out⟩
/-- the parts lie one behind the other in block A -/
structure PartsB (w : World) (A n : Nat) (F : Nat → List (List UInt8)) : Prop where
  lt : A < w.heap.size
  at_ : ∀ i, i < n → ∃ p q, w.cell? ⟨A, i, none⟩ = some (.slice p (F i).length q) ∧ RbIs w p (F i) q
theorem PartsB.later {W W' : World} {A n : Nat} {F : Nat → List (List UInt8)} (h : PartsB W A n F) (hb : Below W.heap.size W W') : PartsB W' A n F :=
  ⟨Nat.lt_of_lt_of_le h.lt hb.size, fun i hi => by
    obtain ⟨p, q, h1, h2⟩ := h.at_ i hi
    exact ⟨p, q, by rw [hb.cell (p := ⟨A, i, none⟩) h.lt]; exact h1, h2.later hb⟩⟩
def CxAt (F : Nat → List (List UInt8)) (n : Nat) (w : World) (s iv : Value) (wr : World) : Prop :=
  ∃ k : Nat, k ≤ n ∧ iv = .int .i64 k ∧ s = .int .i64 (lenB F k : Nat) ∧ wr = w
def CyAt (F : Nat → List (List UInt8)) (n : Nat) (w : World) (v iv : Value) (wr : World) : Prop :=
  ∃ (k : Nat) (xs : List Value), k ≤ n ∧ iv = .int .i64 k ∧ wr.ownsRow w.heap.size 22 1 v (lenB F k) xs ∧ ElsB w.heap.size wr (catB F k) xs ∧ Below w.heap.size w wr
set_option maxRecDepth 100000 in
set_option maxHeartbeats 2000000 in
theorem concatB_any (F : Nat → List (List UInt8)) (n A : Nat) (w : World) (hP : PartsB w A n F) (hn : n ≤ 1000) (h0 : 0 < lenB F n) (hl : lenB F n ≤ 10000) :
    Calls Tryd.prog 25 #[.slice (some ⟨A, 0, none⟩) n n] w fun e w' => ∃ x, e = .returned x ∧ RbV (catB F n) x w' ∧ Below w.heap.size w w' := by
  have HP := Lib.hid hP
  have hlm := fun k (h : k ≤ n) => lenB_mono F k (n - k)
  have HLM : Hid (∀ k, k ≤ n → lenB F k ≤ 10000) := Lib.hid fun k h => by
    have := hlm k h
    rw [show k + (n - k) = n by omega] at this
    omega
  clear hP hlm
  go_enter Tryd.func25, Tryd.ntmps25
  go_wp2_with fail
  go_loopw [3, 5, 11] (fun s _ i wr => CxAt F n w s i wr) (fun _ _ i _ => n - (intOf i).toNat)
  case atStart => exact ⟨0, Nat.zero_le _, rfl, rfl, rfl⟩
  case round =>
    obtain ⟨k, hk, rfl, rfl, rfl⟩ := hrel
    by_cases hlt : k < n
    · obtain ⟨p, q, hc, hr⟩ := HP.out.at_ k hlt
      have hk0 : (0 : Int) ≤ (k : Int) := by omega
      have hk1 : (k : Int) < (n : Int) := by omega
      have h1 := HLM.out (k + 1) hlt
      have h2 : lenB F (k + 1) = lenB F k + (F k).length := rfl
      have hr1 := hr.le
      unfold maxLen at hr1
      have hr2 := hr1.1
      have hr3 := hr1.2
      have H2 := Lib.hid h2
      have hs1 : lenB F k ≤ 10000 := by omega
      have hs2 : (F k).length ≤ 10000 := by omega
      generalize lenB F k = s at *
      generalize (F k).length = m at *
      have hd : decide ((s : Int) + (m : Int) < 0) = false := decide_eq_false (by omega)
      clear hr h2 h1 hr1
      go_wp2_with fail
      go_roundw
      case rel => exact ⟨k + 1, by omega, by go_num, by rw [H2.out]; go_num, rfl⟩
      case measure => simp [intOf]; omega
    · obtain rfl : k = n := by omega
      have HG := Lib.hid (growB_nil (lenB F k) wr h0 hl)
      have HLL : Hid (∃ L, lenB F k = L) := Lib.hid ⟨_, rfl⟩
      obtain ⟨L, hL⟩ := HLL.out
      have HL := Lib.hid hL
      rw [hL] at HG h0 hl ⊢
      clear hL HLL
      go_wp2_with fail
      refine HG.out.mono ?_; rintro e w2 ⟨g, cap, rfl, hown, hb⟩
      have HV := Lib.hid hown
      have HB := Lib.hid hb
      clear hown hb HG
      go_wp2_with fail
      go_loopw [6, 8, 27] (fun v _ i wr2 => CyAt F k wr v i wr2) (fun _ _ i _ => k - (intOf i).toNat)
      case atStart => exact ⟨0, [], Nat.zero_le _, rfl, HV.out, ElsB.nil _ _, HB.out⟩
      case round =>
        rename World => W3
        obtain ⟨i, xs, hi, rfl, hv, he, hb3⟩ := hrel
        have HV3 := Lib.hid hv
        have HE3 := Lib.hid he
        have HB3 := Lib.hid hb3
        by_cases hlt2 : i < k
        · obtain ⟨p, q, hc0, ys, hr0, hel0⟩ := HP.out.at_ i hlt2
          have hc : W3.cell? ⟨A, i, none⟩ = _ := (hb3.cell (p := ⟨A, i, none⟩) HP.out.lt).trans hc0
          have HR := Lib.hid (hr0.later hb3)
          have HEL := Lib.hid (hel0.old.later hb3)
          have hi0 : (0 : Int) ≤ (i : Int) := by omega
          have hi1 : (i : Int) < (k : Int) := by omega
          have h1 := HLM.out (i + 1) hlt2
          have h2 : lenB F (i + 1) = lenB F i + (F i).length := rfl
          obtain ⟨m, hm⟩ : ∃ m, (F i).length = m := ⟨_, rfl⟩
          have HYL : Hid (m = ys.length) := Lib.hid (by rw [← hm]; exact hel0.len.symm)
          have H12 : Hid (lenB F i + m ≤ 10000) := Lib.hid (by omega)
          have H2 : Hid (lenB F i + m = lenB F (i + 1)) := Lib.hid (by omega)
          rw [hm] at hc
          clear hc0 hr0 hel0 hv he hb3 h1 h2 hm
          go_wp2_with (at_builtin; refine append_rowsH rfl (.tmp 31) (.tmp 32) rfl wr.heap.size _ (lenB F i) xs rfl HV3.out p m q ys rfl HYL.out HR.out HEL.out.els.ones (by have := H12.out; omega) HB3.out.size ?_)
          intro v' w4 hv hg
          have HV4 : Hid (w4.ownsRow wr.heap.size 22 1 v' (lenB F (i + 1)) (xs ++ ys)) := Lib.hid (by rw [← H2.out]; exact hv)
          have HE4 := Lib.hid ((HE3.out.app HEL.out).grown HV3.out hg)
          have HB4 := Lib.hid (own_belowB HB3.out HV3.out hg)
          clear hv hg
          go_wp2_with fail
          go_roundw
          case rel => exact ⟨i + 1, xs ++ ys, by omega, by go_num, HV4.out, HE4.out, HB4.out⟩
          case measure => simp [intOf]; omega
        · obtain rfl : i = k := by omega
          have HRB := Lib.hid (owns_rb HV3.out (by rw [catB_length]) HE3.out.els)
          clear hv he hb3
          go_wp2_with fail
          go_ret
          exact ⟨_, rfl, HRB.out, HB3.out⟩
end Go.Proofs.YtgifbpjmblemhaaDoor
