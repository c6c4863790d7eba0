/- Sh -/
import Derived.Test.YtffheegeaghfjaaGreatDoorIns
set_option linter.unusedVariables false
set_option linter.unusedSimpArgs false
set_option maxRecDepth 100000
set_option maxHeartbeats 8000000
namespace Go.Proofs.YtffheegeaghfjaaGreatDoor
open Go.RowKit
def natI (l : List Nat) : List Int := l.map fun k : Nat => (k : Int)
@[simp] theorem natI_length (l : List Nat) : (natI l).length = l.length := by simp [natI]
theorem natI_getD (l : List Nat) (k : Nat) : (natI l).getD k 0 = ((l.getD k 0 : Nat) : Int) := by
 unfold natI
 by_cases h : k < l.length
 ·simp [List.getD_eq_getElem?_getD, h]
 ·simp [List.getD_eq_getElem?_getD, h]
theorem count_any (n : Nat) (w : World) (hn : n <= 1000000) :
    Calls Tryz.prog 141 #[.int .i64 (n : Int)] w fun e w' => e = .returned (.int .i64 (nbk n : Nat)) /\ w' = w := by
 have h1 : ((n : Int) + 8 - 1) / 8 = ((n + 7) / 8 : Nat) := by omega
 by_cases h0 : n = 0
 ·subst h0
  go_enter Tryz.func141, Tryz.ntmps141
  go_wp2
  go_ret
  exact ⟨rfl, rfl⟩
 ·have e : nbk n = (n + 7) / 8 := if_neg h0
  obtain ⟨m, hm⟩ : ∃ m, nbk n = m := ⟨_, rfl⟩
  have hm1 : 1 <= m := by omega
  have h2 : ((n : Int) + 8 - 1) / 8 = (m : Int) := by omega
  have hmx : max (m : Int) 1 = (m : Int) := by omega
  rw [hm]
  have H2 := Lh h2
  clear h1 h2 hm e
  go_enter Tryz.func141, Tryz.ntmps141
  go_wp2_with fail
  go_ret
  exact ⟨by rw [H2.out]; rfl, rfl⟩
theorem ow_nil (w : World) (C : Array Value) (T : TypeId) : (w.alloc (.cells C T)).ownsRow w.heap.size 3 1 (.slice none 0 0) 0 (intsV []) := World.ownsRow_nil _ _ _ _
theorem cell_new (w : World) (C : Array Value) (T : TypeId) (v : Value) (h : C[0]? = some v) : (w.alloc (.cells C T)).cell? ⟨w.heap.size, 0, none⟩ = some v := by
 rw [cell_of_row _ _ 0 _ _ _ (World.alloc_heap_new w (.cells C T))]
 exact h
theorem cell_laterB {W W' : World} {g : Nat} {v : Value} (hb : Below W.heap.size W W') (hc : W.cell? ⟨g, 0, none⟩ = some v) : W'.cell? ⟨g, 0, none⟩ = some v := by
 obtain ⟨ob, ho, _⟩ := cells_of_cell hc
 rw [hb.cell (p := ⟨g, 0, none⟩) (aE.1 ho).1]; exact hc
theorem below_new (w : World) (o : Obj) : Below w.heap.size w (w.alloc o) := (Below.refl _ _).alloc (Nat.le_refl _) _
theorem shape_any (n : Nat) (w : World) (hn : n <= 2000) :
    Calls Tryz.prog 112 #[.int .i64 (n : Int)] w fun e w' => ∃ x, e = .returned (.tuple #[x, .nilIface]) /\ IntsV (natI (shp n)) x w' /\ Below w.heap.size w w' := by
 have hd : decide ((n : Int) < 0) = false := decide_eq_false (by omega)
 have hd2 : decide ((2000 : Int) < (n : Int)) = false := decide_eq_false (by omega)
 have HC := Lh (count_any n w (by omega))
 have hb := nbk_bd n hn
 have h1 := nbk_pos n
 have hs : shp n = if 223 < nbk n then [223, nbk n - 223] else [nbk n] := rfl
 generalize nbk n = m at *
 clear hn
 by_cases hm : 223 < m
 ·rw [if_pos hm] at hs
  have hd3 : decide ((223 : Int) < (m : Int)) = true := decide_eq_true (by omega)
  have HS := Lh hs
  obtain ⟨k, hk⟩ : ∃ k, m - 223 = k := ⟨_, rfl⟩
  have hw : (m : Int) - 223 = (k : Int) := by omega
  have HK := Lh hk
  have HW := Lh hw
  obtain ⟨w1, hw1⟩ : ∃ w1, w.alloc (.cells #[.int .i64 223] 3) = w1 := ⟨_, rfl⟩
  have HO1 : Hid (w1.ownsRow w.heap.size 3 1 (.slice none 0 0) 0 (intsV [])) := Lh (by rw [<- hw1]; exact ow_nil _ _ _)
  have HC1 : Hid (w1.cell? ⟨w.heap.size, 0, none⟩ = some (.int .i64 223)) := Lh (by rw [<- hw1]; exact cell_new w _ _ _ rfl)
  have HB1 : Hid (Below w.heap.size w w1) := Lh (by rw [<- hw1]; exact below_new _ _)
  have HW1 := Lh hw1
  clear hs hk hw hw1 hm h1
  go_enter Tryz.func112, Tryz.ntmps112
  go_wp2_with fail
  refine HC.out.mono ?_; rintro e w' ⟨rfl, rfl⟩
  go_wp2_with (first | rw [HW1.out] | (at_builtin; refine append_int rfl (.tmp 18) (.tmp 19) rfl w'.heap.size _ 0 [] rfl HO1.out _ 223 rfl HC1.out (by omega) HB1.out.size ?_))
  intro v' w2 hv hg
  have HB2 := Lh (own_belowI HB1.out HO1.out hg)
  obtain ⟨w3, hw3⟩ : ∃ w3, w2.alloc (.cells #[.int .i64 (k : Int)] 3) = w3 := ⟨_, rfl⟩
  have HO3 : Hid (w3.ownsRow w'.heap.size 3 1 v' 1 (intsV [223])) := Lh (by rw [<- hw3]; exact World.ownsRow.alloc hv _)
  have HC3 : Hid (w3.cell? ⟨w2.heap.size, 0, none⟩ = some (.int .i64 (k : Int))) := Lh (by rw [<- hw3]; exact cell_new w2 _ _ _ rfl)
  have HB3 : Hid (Below w'.heap.size w' w3) := Lh (by rw [<- hw3]; exact HB2.out.alloc HB2.out.size _)
  have HW3 := Lh hw3
  clear hv hg hw3
  go_wp2_with (first | rw [HW.out] | rw [HW3.out] | (at_builtin; refine append_int rfl (.tmp 23) (.tmp 25) rfl w'.heap.size _ 1 [223] rfl HO3.out _ (k : Int) rfl HC3.out (by omega) HB3.out.size ?_))
  intro v2 w4 hv hg
  have HB4 := Lh (own_belowI HB3.out HO3.out hg)
  have HV := Lh (owns_ints hv rfl)
  clear hv hg
  go_wp2_with fail
  go_ret2
  exact ⟨v2, rfl, by rw [HS.out, HK.out]; exact HV.out, HB4.out⟩
 ·rw [if_neg hm] at hs
  have hd3 : decide ((223 : Int) < (m : Int)) = false := decide_eq_false (by omega)
  have HS := Lh hs
  obtain ⟨w1, hw1⟩ : ∃ w1, w.alloc (.cells #[.int .i64 (m : Int)] 3) = w1 := ⟨_, rfl⟩
  have HO1 : Hid (w1.ownsRow w.heap.size 3 1 (.slice none 0 0) 0 (intsV [])) := Lh (by rw [<- hw1]; exact ow_nil _ _ _)
  have HC1 : Hid (w1.cell? ⟨w.heap.size, 0, none⟩ = some (.int .i64 (m : Int))) := Lh (by rw [<- hw1]; exact cell_new w _ _ _ rfl)
  have HB1 : Hid (Below w.heap.size w w1) := Lh (by rw [<- hw1]; exact below_new _ _)
  have HW1 := Lh hw1
  clear hs hw1 hm h1
  go_enter Tryz.func112, Tryz.ntmps112
  go_wp2_with fail
  refine HC.out.mono ?_; rintro e w' ⟨rfl, rfl⟩
  go_wp2_with (first | rw [HW1.out] | (at_builtin; refine append_int rfl (.tmp 23) (.tmp 25) rfl w'.heap.size _ 0 [] rfl HO1.out _ (m : Int) rfl HC1.out (by omega) HB1.out.size ?_))
  intro v' w2 hv hg
  have HB2 := Lh (own_belowI HB1.out HO1.out hg)
  have HV := Lh (owns_ints hv rfl)
  clear hv hg
  go_wp2_with fail
  go_ret2
  exact ⟨v', rfl, by rw [HS.out]; exact HV.out, HB2.out⟩
theorem sumN_take_le (l : List Nat) (k : Nat) : sumN (l.take k) <= sumN l := by
 have := sumN_app (l.take k) (l.drop k)
 rw [List.take_append_drop] at this
 omega
theorem sumN_take_succ (l : List Nat) (k : Nat) (h : k < l.length) : sumN (l.take (k + 1)) = sumN (l.take k) + l.getD k 0 := by
 have e : l.take (k + 1) = l.take k ++ [l.getD k 0] := by
  rw [List.take_add_one, List.getElem?_eq_getElem h]
  simp [List.getD_eq_getElem?_getD, List.getElem?_eq_getElem h]
 rw [e, sumN_app]; simp
def TtAt (l : List Nat) (w : World) (s i : Value) (wr : World) : Prop := ∃ k : Nat, k <= l.length /\ i = .int .i64 k /\ s = .int .i64 ((sumN (l.take k) + 32 * k : Nat) : Int) /\ wr = w
theorem natI_cell {l : List Nat} {W : World} {o : Option Addr} {c : Nat} (h : RowIs W o (intsV (natI l)) c) (k : Nat) (hk : k < l.length) :
    ∃ b off, o = some ⟨b, off, none⟩ /\ b < W.heap.size /\ W.cell? ⟨b, off + k, none⟩ = some (.int .i64 ((l.getD k 0 : Nat) : Int)) := by
 obtain ⟨b, off, e, hb, hc⟩ := h.cells (by simp; omega)
 refine ⟨b, off, e, hb, ?_⟩
 rw [hc k _ (intsV_get _ k (by simpa using hk)), natI_getD]
theorem total_any (l : List Nat) (o : Option Addr) (c : Nat) (w : World) (hR : RowIs w o (intsV (natI l)) c) (hl : l.length <= 1000) (hs : sumN l <= 1000000) :
    Calls Tryz.prog 134 #[.slice o l.length c] w fun e w' => e = .returned (.int .i64 ((sumN l + 32 * l.length : Nat) : Int)) /\ w' = w := by
 have h1 := hR.le
 have h2 := hR.cap
 simp at h1
 unfold maxLen at h2
 have HR := Lh hR
 have HS := Lh hs
 clear hR hs
 go_enter Tryz.func134, Tryz.ntmps134
 go_wp2_with fail
 go_loopw [3, 5, 8] (fun s _ i wr => TtAt l w s i wr) (fun _ _ i _ => l.length - (intOf i).toNat)
 case atStart => exact ⟨0, Nat.zero_le _, rfl, rfl, rfl⟩
 case round =>
  obtain ⟨k, hk, rfl, rfl, rfl⟩ := hrel
  by_cases hlt : k < l.length
  ·obtain ⟨b, off, rfl, _, hc⟩ := natI_cell HR.out k hlt
   have hst := sumN_take_succ l k hlt
   have hle := sumN_take_le l (k + 1)
   have hle2 := HS.out
   have HST := Lh hst
   have hk0 : (0 : Int) <= (k : Int) := by omega
   have hk1 : (k : Int) < (l.length : Int) := by omega
   obtain ⟨s, hs⟩ : ∃ s, sumN (l.take k) + 32 * k = s := ⟨_, rfl⟩
   rw [hs]
   have hs1 : s <= 2000000 := by omega
   have hx : l.getD k 0 <= 1000000 := by omega
   generalize l.getD k 0 = x at *
   have HX : Hid (sumN (l.take (k + 1)) + 32 * (k + 1) = s + (x + 32)) := Lh (by omega)
   clear hst hle hle2 hs
   go_wp2_with fail
   go_roundw
   case rel => exact ⟨k + 1, by omega, by go_num, by rw [HX.out]; go_num, rfl⟩
   case measure => simp [intOf]; omega
  ·obtain rfl : k = l.length := by omega
   rw [List.take_length]
   go_wp2_with fail
   go_ret
   exact ⟨rfl, rfl⟩
theorem shp_sum (n : Nat) : sumN (shp n) = nbk n := shpN_sum _
theorem shp_len (n : Nat) : 1 <= (shp n).length /\ (shp n).length <= 2 := shpN_le _
theorem ctotal_any (n : Nat) (w : World) (hn : n <= 2000) :
    Calls Tryz.prog 105 #[.int .i64 (n : Int)] w fun e w' => e = .returned (.tuple #[.int .i64 ((totN (nbk n) : Nat) : Int), .nilIface]) /\ Below w.heap.size w w' := by
 have HS := Lh (shape_any n w hn)
 have hb := nbk_bd n hn
 have hl := shp_len n
 have HT : Hid (sumN (shp n) + 32 * (shp n).length = totN (nbk n)) := Lh (by rw [shp_sum]; rfl)
 go_enter Tryz.func105, Tryz.ntmps105
 go_wp2_with fail
 refine HS.out.mono ?_; rintro e w1 ⟨x, rfl, ⟨o, c, rfl, hr⟩, hb1⟩
 have htt := total_any (shp n) o c w1 hr (by omega) (by rw [shp_sum]; omega)
 rw [HT.out] at htt
 have HTT := Lh htt
 have HB := Lh hb1
 rw [natI_length]
 clear htt hr hb1 HS
 go_wp2_with fail
 refine HTT.out.mono ?_; rintro e w2 ⟨rfl, rfl⟩
 go_wp2_with fail
 go_ret2
 exact ⟨rfl, HB.out⟩
end Go.Proofs.YtffheegeaghfjaaGreatDoor
