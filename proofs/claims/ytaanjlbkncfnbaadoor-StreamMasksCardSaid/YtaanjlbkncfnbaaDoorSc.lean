/- The chapter's example of the stream: none of five, one of one. -/
import Derived.Test.YtaanjlbkncfnbaaDoorSk
namespace Go.Proofs.YtaanjlbkncfnbaaDoor
open Go.RowKit
set_option linter.unusedVariables false
set_option linter.unusedSimpArgs false
theorem info_int10 : (Tryd.prog.info? 3).map (fun i => (i.zero, i.size, i.bytes)) = some (some (.int .i64 0), 1, 8) := by kernel_rfl
/-- the row 0 to n - 1, of which the first j are there -/
def rsL (n j : Nat) : List Value := (List.range n).map fun i => .int .i64 (if i < j then (i : Int) else 0)
theorem rsL_zero (n : Nat) : rsL n 0 = List.replicate n (.int .i64 0) := by
  apply List.ext_getElem
  · simp [rsL]
  · intro i h1 h2
    simp [rsL]
theorem rsL_at (n j i : Nat) (hi : i < n) : (rsL n j)[i]? = some (.int .i64 (if i < j then (i : Int) else 0)) := by simp [rsL, hi]
theorem rsL_step (n j : Nat) : (rsL n j).set j (.int .i64 j) = rsL n (j + 1) := by
  apply List.ext_getElem
  · simp [rsL]
  · intro i h1 h2
    rw [List.getElem_set]
    by_cases e : j = i
    · subst e
      simp [rsL]
    · rw [if_neg e]
      simp only [rsL, List.getElem_map, List.getElem_range]
      by_cases c : i < j
      · rw [if_pos c, if_pos (by omega)]
      · rw [if_neg c, if_neg (by omega)]
theorem made_ints (n : Nat) : (madeCells #[.int .i64 0] n).toList = List.replicate n (.int .i64 0) := by
  rw [toList_madeCells_one]
def RsAt10 (n g : Nat) (w : World) (i : Value) (wr : World) : Prop := ∃ j : Nat, j ≤ n ∧ i = .int .i64 j ∧ Arr wr g 3 (rsL n j) ∧ Below w.heap.size w wr
set_option maxRecDepth 100000 in
theorem rise_any (n : Nat) (hn : n ≤ 2000) (w : World) :
    Calls Tryd.prog 28 #[.int .i64 n] w fun e w' => ∃ g, e = .returned (.slice (some ⟨g, 0, none⟩) n n) ∧ w.heap.size ≤ g ∧ Arr w' g 3 (rsL n n) ∧ Below w.heap.size w w' := by
  obtain ⟨i0, hi, hz0, hz1, hz2⟩ := info_parts info_int10
  go_enter Tryd.func28, Tryd.ntmps28
  go_wp2_with (at_make; refine wpList_make_full _ rfl _ _ 45 rfl w.heap.size 3 i0 (.int .i64 0) 1 Tryd.underlying45 hi hz0 hz1 .i64 .i64 _ _ n rfl rfl rfl rfl (by rw [hz2]; omega) (by unfold maxLen; omega) (Nat.le_refl _) ?_)
  intro W1 hown hgrow
  have hb1 : Below w.heap.size w W1 := (Below.refl _ _).grown hgrow (Nat.le_refl _) (fun k h => by cases h)
  obtain ⟨g, hg⟩ : ∃ g, w.heap.size = g := ⟨_, rfl⟩
  have hA1 := (arr_of_own hown).1
  rw [made_ints] at hA1
  rw [hg] at hA1
  have HX0 : Hid (RsAt10 n g w (.int .i64 0) W1) := Lib.hid ⟨0, Nat.zero_le _, rfl, by rw [rsL_zero]; exact hA1, hb1⟩
  have HG := Lib.hid hg
  clear hb1 hg hown hgrow hA1
  go_wp2_with (first | rw [HG.out])
  go_loopw [9] (fun i wr => RsAt10 n g w i wr) (fun i _ => n - (intOf i).toNat)
  case atStart => exact HX0.out
  case round =>
    obtain ⟨j, hj, rfl, hA, hb⟩ := hrel
    by_cases hlt : j < n
    · have hc : wr.cell? ⟨g, j, none⟩ = some (.int .i64 (if j < j then (j : Int) else 0)) := by rw [hA.cell]; exact rsL_at n j j hlt
      have hf := hA.frozen j
      have HA := Lib.hid hA
      have HB := Lib.hid hb
      rw [if_neg (by omega)] at hc
      clear hA hb HX0
      go_wp2_with fail
      exact ⟨⟨j + 1, by omega, rfl, by rw [← rsL_step]; exact HA.out.set j _, HA.out.below HB.out (by rw [HG.out]; exact Nat.le_refl _) j _⟩, by simp [intOf]; omega⟩
    · obtain rfl : n = j := by omega
      have HA := Lib.hid hA
      have HB := Lib.hid hb
      clear hA hb HX0
      go_wp2_with fail
      go_ret
      exact ⟨g, rfl, by rw [HG.out]; exact Nat.le_refl _, HA.out, HB.out⟩
set_option maxRecDepth 100000 in
theorem choose_none (w : World) (hV : Cds w) :
    Calls Tryd.prog 18 #[.slice none 0 0, .int .i64 0, .int .i64 5, .int .i64 0] w fun e w' => ∃ o, e = .returned (.tuple #[.slice o 0 0, .nilIface]) ∧ Below w.heap.size w w' := by
  have SO := Lib.hid (sof10_any [] none 0 w (RowIs.empty none 0 (Nat.zero_le _) (fun _ => rfl)) hV (by simp))
  clear hV
  go_enter Tryd.func18, Tryd.ntmps18
  go_wp2_with fail
  refine SO.out.mono ?_
  rintro e W1 ⟨p, rfl, hk, hb1⟩
  have HB1 := Lib.hid hb1
  clear hk hb1 SO
  go_wp2_with fail
  refine (rise_any 5 (by omega) W1).mono ?_
  rintro e W2 ⟨g, rfl, _, _, hb2⟩
  have HB2 := Lib.hid (Kit.step HB1.out hb2)
  obtain ⟨W3, hW3⟩ : ∃ W3, W2.alloc (.cells #[.pointer none] 51) = W3 := ⟨_, rfl⟩
  obtain ⟨gs, hgs⟩ : ∃ gs, W2.heap.size = gs := ⟨_, rfl⟩
  obtain ⟨W4, hW4⟩ : ∃ W4, W3.setRow gs #[.pointer (some ⟨p, 0, none⟩)] = W4 := ⟨_, rfl⟩
  have hA3 : Arr W3 gs 51 [.pointer none] := by rw [← hW3, ← hgs]; exact Arr.made _ _ _
  have HA3 : Hid (W3.heap[gs]? = some (.cells #[.pointer none] 51 (0, 0))) := Lib.hid hA3
  have HB4 : Hid (Below w.heap.size w W4) := Lib.hid (by
    rw [← hW4, ← hW3]
    exact Kit.step HB2.out (((Below.refl _ _).alloc (Nat.le_refl _) _).trans (below_row (by rw [hgs]; exact Nat.le_refl _))))
  have HW3 := Lib.hid hW3
  have HW4 := Lib.hid hW4
  have HGS := Lib.hid hgs
  clear hb2 hW3 hW4 hgs hA3
  go_wp2_with (first | rw [HW3.out, HGS.out] | refine wpList_store_row rfl 51 (.tmp 10) (.tmp 39) rfl gs #[.pointer (some ⟨p, 0, none⟩)] rfl rfl 51 _ HA3.out src_size rfl (src_one p) ?_ | rw [HW4.out])
  go_loopw [43] (fun i wr => i = .int .i64 0 ∧ wr = W4) (fun _ _ => 0)
  case atStart => exact ⟨rfl, rfl⟩
  case round =>
    obtain ⟨rfl, rfl⟩ := hrel
    go_wp2_with fail
    refine bodyPost_ret (results_tmp2 rfl _ _ _) rfl ?_
    exact ⟨_, rfl, HB4.out⟩
def ChAt (k : List UInt8) (g gs p : Nat) (w : World) (i : Value) (wr : World) : Prop :=
  ∃ j : Nat, j ≤ 1 ∧ i = .int .i64 j ∧ Arr wr g 3 [.int .i64 0] ∧ Arr wr gs 51 [.pointer (some ⟨p, 0, none⟩)] ∧ Arr wr p 74 (bytesV (Da.fil k)) ∧ Below w.heap.size w wr
set_option maxRecDepth 100000 in
set_option maxHeartbeats 1000000 in
theorem choose_one (w : World) (hV : Cds w) :
    Calls Tryd.prog 18 #[.slice none 0 0, .int .i64 0, .int .i64 1, .int .i64 1] w fun e w' => ∃ g, e = .returned (.tuple #[.slice (some ⟨g, 0, none⟩) 1 1, .nilIface]) ∧ Arr w' g 3 [.int .i64 0] ∧ Below w.heap.size w w' := by
  have SO := Lib.hid (sof10_any [] none 0 w (RowIs.empty none 0 (Nat.zero_le _) (fun _ => rfl)) hV (by simp))
  have HV := Lib.hid hV
  clear hV
  go_enter Tryd.func18, Tryd.ntmps18
  go_wp2_with fail
  refine SO.out.mono ?_
  rintro e W1 ⟨p, rfl, hk, hb1⟩
  have HB1 := Lib.hid hb1
  have HK := Lib.hid hk
  clear hk hb1 SO
  go_wp2_with fail
  refine (rise_any 1 (by omega) W1).mono ?_
  rintro e W2 ⟨g, rfl, hgl, hg, hb2⟩
  have HB2 := Lib.hid (Kit.step HB1.out hb2)
  have HK2 := Lib.hid (HK.out.later hb2 HK.out.lt)
  have HGL : Hid (w.heap.size ≤ g) := Lib.hid (Nat.le_trans HB1.out.size hgl)
  obtain ⟨W3, hW3⟩ : ∃ W3, W2.alloc (.cells #[.pointer none] 51) = W3 := ⟨_, rfl⟩
  obtain ⟨gs, hgs⟩ : ∃ gs, W2.heap.size = gs := ⟨_, rfl⟩
  obtain ⟨W4, hW4⟩ : ∃ W4, W3.setRow gs #[.pointer (some ⟨p, 0, none⟩)] = W4 := ⟨_, rfl⟩
  have hA3 : Arr W3 gs 51 [.pointer none] := by rw [← hW3, ← hgs]; exact Arr.made _ _ _
  have hb3 : Below W2.heap.size W2 W3 := by rw [← hW3]; exact (Below.refl _ _).alloc (Nat.le_refl _) _
  have hK3 := HK2.out.later hb3 HK2.out.lt
  have hG3 := hg.later hb3 hg.lt
  have HA3 : Hid (W3.heap[gs]? = some (.cells #[.pointer none] 51 (0, 0))) := Lib.hid hA3
  have HX0 : Hid (ChAt [] g gs p w (.int .i64 0) W4) := Lib.hid ⟨0, Nat.zero_le _, rfl, by rw [← hW4]; exact arr_setRow hG3 (arr_apart hG3 hA3 (by decide)) _, by rw [← hW4]; exact setRow_heap _ _ _ _ _ _ hA3, by rw [← hW4]; exact arr_setRow hK3 (arr_apart hK3 hA3 (by decide)) _, by
    rw [← hW4]
    exact (Kit.step HB2.out hb3).trans (below_row (by rw [← hgs]; exact HB2.out.size))⟩
  have HW3 := Lib.hid hW3
  have HW4 := Lib.hid hW4
  have HGS := Lib.hid hgs
  clear hb2 hW3 hW4 hgs hA3 hb3 hK3 hG3 hg hgl
  go_wp2_with (first | rw [HW3.out, HGS.out] | refine wpList_store_row rfl 51 (.tmp 10) (.tmp 39) rfl gs #[.pointer (some ⟨p, 0, none⟩)] rfl rfl 51 _ HA3.out src_size rfl (src_one p) ?_ | rw [HW4.out])
  go_loopw [43] (fun i wr => ChAt [] g gs p w i wr) (fun i _ => 1 - (intOf i).toNat)
  case atStart => exact HX0.out
  case round =>
    obtain ⟨j, hj, rfl, hA, hS, hk, hb⟩ := hrel
    have HA := Lib.hid hA
    have HB := Lib.hid hb
    have HK := Lib.hid hk
    have HS : Hid (wr.heap[gs]? = some (.cells #[.pointer (some ⟨p, 0, none⟩)] 51 (0, 0))) := Lib.hid hS
    have HS1 := Lib.hid hS
    clear hA hb hk hS HX0
    by_cases hlt : j < 1
    · obtain rfl : j = 0 := by omega
      have SB := sbel_any [] 0 1 (by omega) (by omega) p wr HK.out (HV.out.later HB.out)
      rw [Nat.mod_one] at SB
      have HSB := Lib.hid SB
      clear SB
      rw [show (((0 : Nat) : Int)) = 0 from rfl]
      go_wp2_with (first | refine wpList_load_row rfl 51 (.tmp 10) rfl gs rfl 51 #[.pointer (some ⟨p, 0, none⟩)] (0, 0) _ HS.out Tryd.underlying51 rfl src_size ?_)
      refine HSB.out.mono ?_
      rintro e W5 ⟨rfl, hb5⟩
      have hA5 := HA.out.later hb5 HA.out.lt
      have hc : W5.cell? ⟨g, 0, none⟩ = some (.int .i64 0) := hA5.cell 0
      have hf := hA5.frozen 0
      have HA5 := Lib.hid hA5
      have HS5 := Lib.hid (HS1.out.later hb5 HS1.out.lt)
      have HK5 := Lib.hid (HK.out.later hb5 HK.out.lt)
      have HB5 := Lib.hid (Kit.step HB.out hb5)
      clear hb5 hA5 HSB
      go_wp2_with fail
      go_region
      go_wp2_with fail
      have c1 := HA5.out.set 0 (.int .i64 0)
      have c2 := c1.set 0 (.int .i64 0)
      have n1 := arr_apart HS5.out HA5.out (by decide)
      have n2 := arr_apart HK5.out HA5.out (by decide)
      refine ⟨⟨1, Nat.le_refl _, rfl, c2.drew, ((HS5.out.ne HA5.out n1 0 _).ne c1 n1 0 _).drew, ((HK5.out.ne HA5.out n2 0 _).ne c1 n2 0 _).drew, ?_⟩, by simp [intOf]⟩
      exact (c1.below (HA5.out.below HB5.out HGL.out 0 _) HGL.out 0 _).drew
    · obtain rfl : j = 1 := by omega
      go_wp2_with fail
      refine bodyPost_ret (results_tmp2 rfl _ _ _) rfl ?_
      exact ⟨_, rfl, HA.out, HB.out⟩
set_option maxRecDepth 100000 in
theorem alive10_any (w : World) (hV : Cds w) : Calls Tryd.prog 6 #[] w fun e w' => e = .returned (.bool true) ∧ Below w.heap.size w w' := by
  have HV := Lib.hid hV
  clear hV
  go_enter Tryd.func6, Tryd.ntmps6
  go_wp2_with fail
  refine (choose_none w HV.out).mono ?_
  rintro e W1 ⟨o, rfl, hb1⟩
  have HB1 := Lib.hid hb1
  clear hb1
  go_wp2_with fail
  refine (choose_one W1 (HV.out.later HB1.out)).mono ?_
  rintro e W2 ⟨g, rfl, hA, hb2⟩
  have hc : W2.cell? ⟨g, 0, none⟩ = some (.int .i64 0) := hA.cell 0
  have HB2 := Lib.hid (Kit.step HB1.out hb2)
  have hn : ∀ W, (binOp .eql 26 .nilIface .nilIface).run Tryd.prog W = .ok (.bool true) W := fun W => by kernel_rfl
  clear hA hb2
  go_wp2_with fail
  go_ret
  exact ⟨rfl, HB2.out⟩
end Go.Proofs.YtaanjlbkncfnbaaDoor
