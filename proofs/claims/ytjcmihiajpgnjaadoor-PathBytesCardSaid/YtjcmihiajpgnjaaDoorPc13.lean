/- The nodes above a leaf, one by one: climb, turns; Length, the code's and the document's. -/
import Derived.Test.YtjcmihiajpgnjaaDoorRfm
import Derived.Test.YtjcmihiajpgnjaaDoorPl13
namespace Go.Proofs.YtjcmihiajpgnjaaDoor
open Go.RowKit
set_option linter.unusedVariables false
set_option linter.unusedSimpArgs false
attribute [local go_sem] Oper.semAt_some
/-- a node, as the code has it -/
def tnD (t : Nat × Nat × Bool) : Array Value := #[.int .i64 (t.1 : Int), .int .i64 (t.2.1 : Int), .bool t.2.2]
def tnV (t : Nat × Nat × Bool) : Value := .agg (tnD t)
set_option maxHeartbeats 1000000 in
theorem climb_any (l : Nat) (J : List (Nat × Nat × Bool) → World → Prop) (Bx : World → Prop) (W : List (Nat × Nat × Bool))
    (hY : ∀ p x X, p ++ [x] <+: W → J p X → YieldAt Fence.wide 0 Tryd.prog l #[tnV x] X fun e X' => (e = .returned (.bool true) ∧ J (p ++ [x]) X') ∨ (e = .returned (.bool false) ∧ Bx X')) :
    ∀ (n f i T A : Nat) (p : List (Nat × Nat × Bool)) (w : World), T = f + n → A = f + i → i < n → T ≤ 1000000 → p ++ Da.trn f n i <+: W → J p w →
      Calls Tryd.prog 46 #[.int .i64 (f : Int), .int .i64 (T : Int), .int .i64 (A : Int), .func (.yield l) #[] #[]] w fun e X =>
        (e = .returned (.bool true) ∧ J (p ++ Da.trn f n i) X) ∨ (e = .returned (.bool false) ∧ Bx X) := by
  intro n
  induction n using Nat.strongRecOn with
  | ind n ih =>
    intro f i T A p w hT hA hi hf hp hJ
    have hw1 : (T : Int) - (f : Int) = (n : Int) := by omega
    by_cases h : n < 2
    · rw [Da.trn_one f i h, List.append_nil]
      have hd : decide ((n : Int) < 2) = true := by simp; omega
      clear hp
      have HJ := Lib.hid hJ
      have HT := Lib.hid hT
      have HA := Lib.hid hA
      clear hJ hY ih hT hA
      refine (callsIn_wide (n := 0)).1 (callsIn_of_wp Tryd.func46 rfl trivial ?_ rfl)
      simp only [Tryd.ntmps46, List.size_toArray, List.length_cons, List.length_nil, Nat.reduceAdd, Nat.reduceSub, Array.replicate_succ, Array.replicate_zero, List.push_toArray, List.append_toArray, List.nil_append, List.cons_append]
      gi_wp2
      go_ret
      exact .inl ⟨rfl, HJ.out⟩
    have hd : decide ((n : Int) < 2) = false := by simp; omega
    have SP := tsplit_any (n : Int) w (by omega) (by omega)
    rw [Int.toNat_natCast] at SP
    obtain ⟨s1, s2, _⟩ := Da.spl_lt (n := n) (by omega)
    obtain ⟨k, hk⟩ : ∃ k, Da.spl n = k := ⟨_, rfl⟩
    rw [hk] at SP s1 s2
    obtain ⟨K, hK⟩ : ∃ K, f + k = K := ⟨_, rfl⟩
    have hw2 : (f : Int) + (k : Int) = (K : Int) := by omega
    by_cases hik : i < k
    · have ht := Da.trn_left (n := n) (i := i) f (by omega) (by rw [hk]; exact hik)
      rw [hk, hK, ← hT] at ht
      have hd2 : decide (A < K) = true := decide_eq_true (by omega)
      rw [ht, ← List.append_assoc] at hp ⊢
      have hy2 := fun X hj => hY (p ++ Da.trn f k i) (K, T, false) X hp hj
      have CH := (ih k s2 f i K A p w hK.symm hA hik (by omega) ((List.prefix_append _ _).trans hp) hJ).mono (R' := fun e X => (e = .returned (.bool true) ∧ YieldAt Fence.wide 0 Tryd.prog l #[tnV (K, T, false)] X fun e X' => (e = .returned (.bool true) ∧ J (p ++ Da.trn f k i ++ [(K, T, false)]) X') ∨ (e = .returned (.bool false) ∧ Bx X')) ∨ (e = .returned (.bool false) ∧ Bx X))
        (fun e X h => h.imp (fun h => ⟨h.1, hy2 X h.2⟩) id)
      have HSP := Lib.hid SP
      have HCH := Lib.hid CH
      have HT := Lib.hid hT
      have HA := Lib.hid hA
      have HK := Lib.hid hK
      clear ih hY hy2 SP CH hp hJ ht hk hT hA hK
      refine (callsIn_wide (n := 0)).1 (callsIn_of_wp Tryd.func46 rfl trivial ?_ rfl)
      simp only [Tryd.ntmps46, List.size_toArray, List.length_cons, List.length_nil, Nat.reduceAdd, Nat.reduceSub, Array.replicate_succ, Array.replicate_zero, List.push_toArray, List.append_toArray, List.nil_append, List.cons_append]
      gi_wp2
      refine ⟨trivial, rfl, ((callsIn_wide (n := 0)).2 HSP.out).mono ?_⟩
      rintro e w1 ⟨rfl, rfl⟩
      rename World => w
      gi_wp2
      refine ⟨trivial, rfl, ((callsIn_wide (n := 0)).2 HCH.out).mono ?_⟩
      rintro e W1 (⟨rfl, hy⟩ | ⟨rfl, hx⟩)
      · obtain ⟨fn, tmps, assign, body, hy, hR⟩ := hy
        unfold tnV tnD at hy
        dsimp only at hy
        gi_wp2
        refine ⟨rfl, hR.mono ?_⟩
        rintro e W2 (⟨rfl, hJ2⟩ | ⟨rfl, hx⟩)
        · gi_wp2
          go_ret
          exact .inl ⟨rfl, hJ2⟩
        · gi_wp2
          go_ret
          exact .inr ⟨rfl, hx⟩
      · gi_wp2
        refine ⟨fun _ h => (by cases h), ?_⟩
        gi_wp2
        go_ret
        exact .inr ⟨rfl, hx⟩
    · have ht := Da.trn_right (n := n) (i := i) f (by omega) (by rw [hk]; omega)
      rw [hk, hK] at ht
      have hd2 : decide (A < K) = false := decide_eq_false (by omega)
      rw [ht, ← List.append_assoc] at hp ⊢
      have hy2 := fun X hj => hY (p ++ Da.trn K (n - k) (i - k)) (f, K, true) X hp hj
      have CH := (ih (n - k) (by omega) K (i - k) T A p w (by omega) (by omega) (by omega) hf ((List.prefix_append _ _).trans hp) hJ).mono (R' := fun e X => (e = .returned (.bool true) ∧ YieldAt Fence.wide 0 Tryd.prog l #[tnV (f, K, true)] X fun e X' => (e = .returned (.bool true) ∧ J (p ++ Da.trn K (n - k) (i - k) ++ [(f, K, true)]) X') ∨ (e = .returned (.bool false) ∧ Bx X')) ∨ (e = .returned (.bool false) ∧ Bx X))
        (fun e X h => h.imp (fun h => ⟨h.1, hy2 X h.2⟩) id)
      have HSP := Lib.hid SP
      have HCH := Lib.hid CH
      have HT := Lib.hid hT
      have HA := Lib.hid hA
      have HK := Lib.hid hK
      clear ih hY hy2 SP CH hp hJ ht hk hT hA hK
      refine (callsIn_wide (n := 0)).1 (callsIn_of_wp Tryd.func46 rfl trivial ?_ rfl)
      simp only [Tryd.ntmps46, List.size_toArray, List.length_cons, List.length_nil, Nat.reduceAdd, Nat.reduceSub, Array.replicate_succ, Array.replicate_zero, List.push_toArray, List.append_toArray, List.nil_append, List.cons_append]
      gi_wp2
      refine ⟨trivial, rfl, ((callsIn_wide (n := 0)).2 HSP.out).mono ?_⟩
      rintro e w1 ⟨rfl, rfl⟩
      rename World => w
      gi_wp2
      refine ⟨trivial, rfl, ((callsIn_wide (n := 0)).2 HCH.out).mono ?_⟩
      rintro e W1 (⟨rfl, hy⟩ | ⟨rfl, hx⟩)
      · obtain ⟨fn, tmps, assign, body, hy, hR⟩ := hy
        unfold tnV tnD at hy
        dsimp only at hy
        gi_wp2
        refine ⟨rfl, hR.mono ?_⟩
        rintro e W2 (⟨rfl, hJ2⟩ | ⟨rfl, hx⟩)
        · gi_wp2
          go_ret
          exact .inl ⟨rfl, hJ2⟩
        · gi_wp2
          go_ret
          exact .inr ⟨rfl, hx⟩
      · gi_wp2
        refine ⟨fun _ h => (by cases h), ?_⟩
        gi_wp2
        go_ret
        exact .inr ⟨rfl, hx⟩
/-- the closure that turns makes -/
theorem mturns_any (n i : Int) (w : World) :
    Calls Tryd.prog 31 #[.int .i64 n, .int .i64 i] w fun e w' => e = .returned (.func (.func 45) #[] #[.pointer (some ⟨w.heap.size, 0, none⟩), .pointer (some ⟨w.heap.size + 1, 0, none⟩)]) ∧ w' = (w.alloc (.cells #[.int .i64 n] 3)).alloc (.cells #[.int .i64 i] 3) := by
  have hmf := @makes Tryd.prog
  go_enter Tryd.func31, Tryd.ntmps31
  go_wp2
  go_ret
  simp
/-- it gives the nodes above leaf i of n -/
theorem turns_seq (n i q1 q2 : Nat) (hi : i < n) (hn : n ≤ 1000000) (l : Nat) (J : List (Nat × Nat × Bool) → World → Prop) (Bx : World → Prop)
    (hY : ∀ p x X, p ++ [x] <+: Da.trn 0 n i → J p X → YieldAt Fence.wide 0 Tryd.prog l #[tnV x] X fun e X' => (e = .returned (.bool true) ∧ J (p ++ [x]) X') ∨ (e = .returned (.bool false) ∧ Bx X')) (w : World)
    (h1 : Boxed w q1 3 (.int .i64 (n : Int))) (h2 : Boxed w q2 3 (.int .i64 (i : Int))) (hJ : J [] w) :
    Calls Tryd.prog 45 #[.func (.yield l) #[] #[], .pointer (some ⟨q1, 0, none⟩), .pointer (some ⟨q2, 0, none⟩)] w fun e X => (∃ v, e = .returned v) ∧ (J (Da.trn 0 n i) X ∨ Bx X) := by
  have CL := climb_any l J Bx (Da.trn 0 n i) hY n 0 i n i [] w (by omega) (by omega) hi hn (by simp) hJ
  rw [List.nil_append, show (((0 : Nat) : Int)) = 0 from rfl] at CL
  have hc1 := h1.cell
  have hc2 := h2.cell
  have HCL := Lib.hid CL
  clear CL hY hJ h1 h2
  go_enter Tryd.func45, Tryd.ntmps45
  go_wp2_with fail
  refine HCL.out.mono ?_
  rintro e X (⟨rfl, h⟩ | ⟨rfl, h⟩)
  · go_wp2_with fail
    go_end0
    exact ⟨⟨_, rfl⟩, .inl h⟩
  · go_wp2_with fail
    go_end0
    exact ⟨⟨_, rfl⟩, .inr h⟩
/-- how many digests a path has: the code's -/
theorem plen_bad (n i : Int) (h : ¬ (0 ≤ i ∧ i < n ∧ n ≤ 512)) (w : World) :
    Calls Tryd.prog 11 #[.int .i64 n, .int .i64 i] w fun e w' => e = .returned (.int .i64 (-1)) ∧ w' = w := by
  by_cases h1 : i < 0
  · have hd1 : decide (i < 0) = true := decide_eq_true (by omega)
    refine Rf.calls_marks Tryd.func11 rfl ?_
    simp only [Tryd.ntmps11, List.size_toArray, List.length_cons, List.length_nil, Nat.reduceAdd, Nat.reduceSub, Array.replicate_succ, Array.replicate_zero, List.push_toArray, List.append_toArray, List.nil_append, List.cons_append]
    go_wp2_with fail
    exact ⟨_, results_tmp rfl _ _ _, rfl, rfl⟩
  have hd1 : decide (i < 0) = false := decide_eq_false (by omega)
  by_cases h2 : n ≤ i
  · have hd2 : decide (i ≥ n) = true := decide_eq_true (by omega)
    have hd3 : decide (n ≤ i) = true := decide_eq_true (by omega)
    refine Rf.calls_marks Tryd.func11 rfl ?_
    simp only [Tryd.ntmps11, List.size_toArray, List.length_cons, List.length_nil, Nat.reduceAdd, Nat.reduceSub, Array.replicate_succ, Array.replicate_zero, List.push_toArray, List.append_toArray, List.nil_append, List.cons_append]
    go_wp2_with fail
    exact ⟨_, results_tmp rfl _ _ _, rfl, rfl⟩
  have hd2 : decide (i ≥ n) = false := decide_eq_false (by omega)
  have hd3 : decide (n ≤ i) = false := decide_eq_false (by omega)
  · have hd4 : decide (n > 512) = true := decide_eq_true (by omega)
    have hd5 : decide (512 < n) = true := decide_eq_true (by omega)
    refine Rf.calls_marks Tryd.func11 rfl ?_
    simp only [Tryd.ntmps11, List.size_toArray, List.length_cons, List.length_nil, Nat.reduceAdd, Nat.reduceSub, Array.replicate_succ, Array.replicate_zero, List.push_toArray, List.append_toArray, List.nil_append, List.cons_append]
    go_wp2_with fail
    exact ⟨_, results_tmp rfl _ _ _, rfl, rfl⟩
theorem plen_any (n i : Nat) (hi : i < n) (hn : n ≤ 512) (w : World) :
    Calls Tryd.prog 11 #[.int .i64 (n : Int), .int .i64 (i : Int)] w fun e w' => e = .returned (.int .i64 (((Da.ups n i).length : Nat) : Int)) ∧ Below w.heap.size w w' := by
  obtain ⟨g, hg⟩ : ∃ g, w.heap.size = g := ⟨_, rfl⟩
  obtain ⟨W1, hW1⟩ : ∃ W1, w.alloc (.cells #[.int .i64 0] 3) = W1 := ⟨_, rfl⟩
  have hb1 : Below w.heap.size w W1 := by rw [← hW1]; exact new12 _ _
  have hX1 : Boxed W1 g 3 (.int .i64 ((0 : Nat) : Int)) := by rw [← hW1, ← hg]; exact Boxed.new _ _ _
  have hs1 : W1.heap.size = g + 1 := by rw [← hW1, World.size_alloc, hg]
  obtain ⟨W2, hW2⟩ : ∃ W2, W1.alloc (.cells #[.int .i64 (n : Int)] 3) = W2 := ⟨_, rfl⟩
  obtain ⟨W3, hW3⟩ : ∃ W3, W2.alloc (.cells #[.int .i64 (i : Int)] 3) = W3 := ⟨_, rfl⟩
  have hb2 : Below W1.heap.size W1 W2 := by rw [← hW2]; exact new12 _ _
  have hb3 : Below W2.heap.size W2 W3 := by rw [← hW3]; exact new12 _ _
  have hX2 : Boxed W2 (g + 1) 3 (.int .i64 (n : Int)) := by rw [← hW2, ← hs1]; exact Boxed.new _ _ _
  have hs2 : W2.heap.size = g + 1 + 1 := by rw [← hW2, World.size_alloc, hs1]
  have hX3 : Boxed W3 (g + 1 + 1) 3 (.int .i64 (i : Int)) := by rw [← hW3, ← hs2]; exact Boxed.new _ _ _
  have MT := mturns_any (n : Int) (i : Int) W1
  rw [hW2, hW3, hs1] at MT
  have HB1 := Lib.hid hb1
  have HMT := Lib.hid MT
  have HW1 := Lib.hid hW1
  have HG := Lib.hid hg
  have HI0 : Hid (Boxed W3 g 3 (.int .i64 ((0 : Nat) : Int)) ∧ Boxed W3 (g + 1) 3 (.int .i64 (n : Int)) ∧ Boxed W3 (g + 1 + 1) 3 (.int .i64 (i : Int)) ∧ Below w.heap.size w W3) :=
    Lib.hid ⟨boxed_later (boxed_later hX1 hb2) hb3, boxed_later hX2 hb3, hX3, Kit.step (Kit.step hb1 hb2) hb3⟩
  have hd1 : decide ((i : Int) < 0) = false := decide_eq_false (by omega)
  have hd2 : decide ((i : Int) ≥ (n : Int)) = false := decide_eq_false (by omega)
  have hd3 : decide (n ≤ i) = false := decide_eq_false (by omega)
  have hd4 : decide ((n : Int) > 512) = false := decide_eq_false (by omega)
  have hd5 : decide (512 < (n : Int)) = false := decide_eq_false (by omega)
  have hlen := Da.trn_length 0 n i
  have hle := Da.ups_nine hn i
  obtain ⟨m, hm⟩ : ∃ m, (Da.ups n i).length = m := ⟨_, rfl⟩
  rw [hm] at hlen hle ⊢
  have HLEN := Lib.hid hlen
  have HLE := Lib.hid hle
  have HII := Lib.hid hi
  have HNN := Lib.hid hn
  clear hb1 hX1 hs1 hb2 hb3 hX2 hs2 hX3 MT hW1 hW2 hW3 hlen hle hm hg hi hn
  refine Rf.calls_marks Tryd.func11 rfl ?_
  simp only [Tryd.ntmps11, List.size_toArray, List.length_cons, List.length_nil, Nat.reduceAdd, Nat.reduceSub, Array.replicate_succ, Array.replicate_zero, List.push_toArray, List.append_toArray, List.nil_append, List.cons_append]
  go_upto_region 4 with fail
  rw [HW1.out, HG.out]
  go_wp2_with fail
  refine HMT.out.mono ?_
  rintro e w3 ⟨rfl, rfl⟩
  rename World => W3
  go_wp2_with fail
  refine Rf.range_toldA (α := Nat × Nat × Bool) (σ := List (Nat × Nat × Bool)) rfl (enters_of Tryd.func45 (by kernel_rfl) rfl) (fun x => #[tnV x]) (fun _ => rfl)
    (fun p X => Boxed X g 3 (.int .i64 ((p.length : Nat) : Int)) ∧ Boxed X (g + 1) 3 (.int .i64 (n : Int)) ∧ Boxed X (g + 1 + 1) 3 (.int .i64 (i : Int)) ∧ Below w.heap.size w X)
    (fun c X => False)
    (fun p x p' X => p' = p ++ [x] ∧ p' <+: Da.trn 0 n i)
    [] (fun p => p = Da.trn 0 n i) ?hI ?hIx ?hV ?h0 ?hseq ?round ?done ?stop
  case hI => exact fun s X X' ⟨h1, h2, h3, h4⟩ k => ⟨boxed_nc12 h1 k, boxed_nc12 h2 k, boxed_nc12 h3 k, h4.trans (k.below HI0.out.2.2.2.size h4.size)⟩
  case hIx => exact fun c X X' h k => h
  case hV => exact fun s x s' X X' h k => h
  case h0 => exact HI0.out
  case hseq =>
    intro l B Bx X hnc hi2 hB hk ht
    refine (turns_seq n i (g + 1) (g + 1 + 1) HII.out (by have := HNN.out; omega) l (fun p X => (Boxed X g 3 (.int .i64 ((p.length : Nat) : Int)) ∧ Boxed X (g + 1) 3 (.int .i64 (n : Int)) ∧ Boxed X (g + 1 + 1) 3 (.int .i64 (i : Int)) ∧ Below w.heap.size w X) ∧ B X) Bx ?_ X hi2.2.1 hi2.2.2.1 ⟨hi2, hB⟩).mono ?_
    · exact fun p x Y hp hY => (ht p x (p ++ [x]) Y hY.1 hY.2 ⟨rfl, hp⟩).mono fun e X' h => h.imp (fun h => ⟨h.1, h.2.1, h.2.2⟩) (fun h => ⟨h.1, h.2⟩)
    · rintro e X' ⟨hv, (⟨h, hB⟩ | hx)⟩
      · exact ⟨hv, .inl ⟨_, rfl, h, hB⟩⟩
      · exact ⟨hv, .inr hx⟩
  case round =>
    rintro l p x p' X Z' To ⟨h1, h2, h3, h4⟩ ⟨rfl, hp⟩ hsz HN' HR' HE'
    have hpl := hp.length_le
    rw [List.length_append, List.length_singleton, HLEN.out] at hpl
    have HH := Lib.hid (show Boxed X g 3 (.int .i64 ((p.length : Nat) : Int)) ∧ Boxed X (g + 1) 3 (.int .i64 (n : Int)) ∧ Boxed X (g + 1 + 1) 3 (.int .i64 (i : Int)) ∧ Below w.heap.size w X from ⟨h1, h2, h3, h4⟩)
    obtain ⟨q, hq⟩ : ∃ q, p.length = q := ⟨_, rfl⟩
    have HQ := Lib.hid hq
    rw [hq] at hpl
    have hq9 : q ≤ 9 := by have := HLE.out; omega
    clear h1 h2 h3 h4 hq hpl hp
    gi_wp2
    refine ⟨Below.refl _ _, fun Y hY hnew hsy => ?_⟩
    obtain ⟨h1, h2, h3, h4⟩ := HH.out
    rw [HQ.out] at h1
    have k1 := boxed_later h1 hY
    have hc := k1.cell
    have hf := k1.frozen
    have HFI : Hid (KeepsOthers X (Y.setCell ⟨g, 0, none⟩ (.int .i64 ((q : Int) + 1))) ∧ Boxed (Y.setCell ⟨g, 0, none⟩ (.int .i64 ((q : Int) + 1))) g 3 (.int .i64 (((p ++ [x]).length : Nat) : Int)) ∧ Boxed (Y.setCell ⟨g, 0, none⟩ (.int .i64 ((q : Int) + 1))) (g + 1) 3 (.int .i64 (n : Int)) ∧ Boxed (Y.setCell ⟨g, 0, none⟩ (.int .i64 ((q : Int) + 1))) (g + 1 + 1) 3 (.int .i64 (i : Int)) ∧ Below w.heap.size w (Y.setCell ⟨g, 0, none⟩ (.int .i64 ((q : Int) + 1)))) := Lib.hid
      ⟨(keeps_below hY).trans (KeepsOthers.setCell _ _ _), by rw [List.length_append, HQ.out]; exact k1.set _, (boxed_later h2 hY).other (by omega) _, (boxed_later h3 hY).other (by omega) _,
        (Kit.step h4 hY).setCell (p := ⟨g, 0, none⟩) (Nat.le_of_eq HG.out) _⟩
    clear h1 h2 h3 h4 hY hnew hsy k1
    gi_wp2
    exact HN'.out _ _ HFI.out.1 HFI.out.2
  case done =>
    rintro D' p X hD' rfl ⟨h1, h2, h3, h4⟩ hK'
    rw [HLEN.out] at h1
    have hc := h1.cell
    have hk : Below w.heap.size X (X.putObj D' (.deferred none)) := belowK_b (w := w) (Nat.le_refl _) X D' _ _ (by have := HI0.out.2.2.2.size; omega) hK' rfl rfl
    have HBW := Lib.hid (h4.trans hk)
    clear h1 h2 h3 h4 hk
    go_wp2_with fail
    refine Rf.leaves hK' (results_tmp rfl _ _ _) ?_
    exact ⟨rfl, HBW.out⟩
  case stop => exact fun D c X hD h => h.elim
/-- the document's -/
theorem rlen_bad13 (n i : Int) (h : ¬ (0 ≤ i ∧ i < n ∧ n ≤ 512)) (w : World) :
    Calls Tryd.prog 12 #[.int .i64 n, .int .i64 i] w fun e w' => e = .returned (.int .i64 (-1)) ∧ w' = w := by
  by_cases h1 : n > 512
  · have hd1 : decide (n > 512) = true := decide_eq_true (by omega)
    have hd2 : decide (512 < n) = true := decide_eq_true (by omega)
    go_enter Tryd.func12, Tryd.ntmps12
    go_wp2_with fail
    go_ret
    exact ⟨rfl, rfl⟩
  have hd1 : decide (n > 512) = false := decide_eq_false (by omega)
  have hd2 : decide (512 < n) = false := decide_eq_false (by omega)
  by_cases h2 : i < 0
  · have hd3 : decide (i < 0) = true := decide_eq_true (by omega)
    go_enter Tryd.func12, Tryd.ntmps12
    go_wp2_with fail
    go_ret
    exact ⟨rfl, rfl⟩
  have hd3 : decide (i < 0) = false := decide_eq_false (by omega)
  have hd4 : decide (i ≥ n) = true := decide_eq_true (by omega)
  have hd5 : decide (n ≤ i) = true := decide_eq_true (by omega)
  go_enter Tryd.func12, Tryd.ntmps12
  go_wp2_with fail
  go_ret
  exact ⟨rfl, rfl⟩
theorem rlen_any13 : ∀ (n i : Nat) (w : World), i < n → n ≤ 512 →
    Calls Tryd.prog 12 #[.int .i64 (n : Int), .int .i64 (i : Int)] w fun e w' => e = .returned (.int .i64 (((Da.ups n i).length : Nat) : Int)) ∧ w' = w := by
  intro n
  induction n using Nat.strongRecOn with
  | ind n ih =>
    intro i w hi hn
    have hd1 : decide ((n : Int) > 512) = false := decide_eq_false (by omega)
    have hd2 : decide (512 < (n : Int)) = false := decide_eq_false (by omega)
    have hd3 : decide ((i : Int) < 0) = false := decide_eq_false (by omega)
    have hd4 : decide ((i : Int) ≥ (n : Int)) = false := decide_eq_false (by omega)
    have hd5 : decide (n ≤ i) = false := decide_eq_false (by omega)
    by_cases h : n < 2
    · obtain rfl : n = 1 := by omega
      rw [Da.ups_one i h]
      clear ih
      go_enter Tryd.func12, Tryd.ntmps12
      go_wp2_with fail
      go_ret
      exact ⟨rfl, rfl⟩
    have hd6 : decide ((n : Int) = 1) = false := decide_eq_false (by omega)
    have hd6' : decide (n = 1) = false := decide_eq_false (by omega)
    have SP := rsplit_any n (by omega) (by omega) w
    obtain ⟨s1, s2, _⟩ := Da.spl_lt (n := n) (by omega)
    have ul := Da.ups_left (n := n) (i := i) (by omega)
    have ur := Da.ups_right (n := n) (i := i) (by omega)
    obtain ⟨k, hk⟩ : ∃ k, Da.spl n = k := ⟨_, rfl⟩
    rw [hk] at SP s1 s2 ul ur
    have HSP := Lib.hid SP
    by_cases hik : i < k
    · have hd7 : decide (i < k) = true := decide_eq_true hik
      rw [ul hik, List.length_append, List.length_singleton]
      have IH := ih k s2 i w hik (by omega)
      have hle := Da.ups_nine (n := k) (by omega) i
      obtain ⟨m, hm⟩ : ∃ m, (Da.ups k i).length = m := ⟨_, rfl⟩
      rw [hm] at IH hle ⊢
      have HIH := Lib.hid IH
      have HK := Lib.hid hik
      clear ih IH SP ul ur hk hm hik
      go_enter Tryd.func12, Tryd.ntmps12
      go_wp2_with fail
      refine HSP.out.mono ?_
      rintro e w1 ⟨rfl, rfl⟩
      rename World => w
      go_wp2_with fail
      refine HIH.out.mono ?_
      rintro e w1 ⟨rfl, rfl⟩
      go_wp2_with fail
      go_ret
      refine ⟨?_, rfl⟩
      rw [show (((m + 1 : Nat) : Int)) = 1 + (m : Int) by omega]
      rfl
    · have hd7 : decide (i < k) = false := decide_eq_false hik
      rw [ur (by omega), List.length_append, List.length_singleton]
      have IH := ih (n - k) (by omega) (i - k) w (by omega) (by omega)
      have hle := Da.ups_nine (n := n - k) (by omega) (i - k)
      obtain ⟨m, hm⟩ : ∃ m, (Da.ups (n - k) (i - k)).length = m := ⟨_, rfl⟩
      rw [hm] at IH hle ⊢
      obtain ⟨N, hN⟩ : ∃ N, n - k = N := ⟨_, rfl⟩
      obtain ⟨J, hJ⟩ : ∃ J, i - k = J := ⟨_, rfl⟩
      rw [hN, hJ] at IH
      have hn1 : (n : Int) - (k : Int) = (N : Int) := by omega
      have hj1 : (i : Int) - (k : Int) = (J : Int) := by omega
      have HIH := Lib.hid IH
      have HK := Lib.hid hik
      clear ih IH SP ul ur hk hm hik hN hJ
      go_enter Tryd.func12, Tryd.ntmps12
      go_wp2_with fail
      refine HSP.out.mono ?_
      rintro e w1 ⟨rfl, rfl⟩
      rename World => w
      go_wp2_with fail
      refine HIH.out.mono ?_
      rintro e w1 ⟨rfl, rfl⟩
      go_wp2_with fail
      go_ret
      refine ⟨?_, rfl⟩
      rw [show (((m + 1 : Nat) : Int)) = 1 + (m : Int) by omega]
      rfl
end Go.Proofs.YtjcmihiajpgnjaaDoor
