/- The code's generator: the product of all roots is the document's. The document's sizes of words; its parity of what is too short or too long; the value that stands for a place. The code's sizes of words, and its values that stand for places. Rows of ints; where two words differ. The document's erasure locator. Ints, SameInts, KeptInts. -/
import Derived.Test.YtomkkkbdipcjgaaDoorGn
import Derived.Test.YtomkkkbdipcjgaaDoorMu
import Derived.Test.YtomkkkbdipcjgaaDoorFwm
import Derived.Test.YtomkkkbdipcjgaaDoorDm
import Derived.Test.YtomkkkbdipcjgaaDoorGf
import Derived.Test.YtomkkkbdipcjgaaDoorRf
import Derived.Test.YtomkkkbdipcjgaaDoorSl
import Derived.Test.YtomkkkbdipcjgaaDoorKit
import Derived.Lib.Hide
import Derived.Test.YtomkkkbdipcjgaaDoorApw
import Derived.BigRegion
import Derived.Deep.QuietTactic
import Derived.BigQuiet
namespace Go.Proofs.YtomkkkbdipcjgaaDoor
open Go.RowKit
set_option linter.unusedVariables false
set_option linter.unusedSimpArgs false
/-- alpha's powers, so many -/
def alL (n : Nat) : List UInt8 := tab Gf.al n
theorem co_two (p : List UInt8) (r : UInt8) (m : Nat) : co (mulL p [r, 1]) m = Gf.gm (co p m) r ^^^ (if m = 0 then 0 else co p (m - 1)) := by
  rw [co_mulL']
  cases m with
  | zero =>
    rw [if_pos rfl]
    show 0 ^^^ Gf.gm (co p 0) r = _
    rw [UInt8.zero_xor, UInt8.xor_zero]
  | succ m =>
    rw [if_neg (by omega), Nat.add_sub_cancel]
    show (Gf.sm _ m ^^^ Gf.gm (co p m) (co [r, 1] (m + 1 - m))) ^^^ Gf.gm (co p (m + 1)) (co [r, 1] (m + 1 - (m + 1))) = _
    rw [show m + 1 - m = 1 by omega, Nat.sub_self, show co [r, 1] 1 = 1 from rfl, show co [r, 1] 0 = r from rfl, Gf.gm_one]
    rw [show Gf.sm (fun i => Gf.gm (co p i) (co [r, 1] (m + 1 - i))) m = 0 from Gf.sm_zero fun i hi => by
      rw [show co [r, 1] (m + 1 - i) = 0 from co_ge (by show 2 ≤ _; omega), Gf.gm_zero]]
    rw [UInt8.zero_xor, UInt8.xor_comm]
theorem prod_gen (z : List UInt8) (n k : Nat) (hz : ∀ j, j < n → co z j = Gf.al j) (h : k ≤ n) (m : Nat) : co (prodL (fun r => [r, 1]) z k) m = co (genL k) m := by
  induction k generalizing m with
  | zero => rfl
  | succ k ih =>
    rw [prodL, genL, co_two, co_nx, hz k (by omega), ih (by omega), ih (by omega)]
theorem tr_gen (k : Nat) : tr (genL k) = genL k := tr_of_top fun _ => by
  rw [genL_length, Nat.add_sub_cancel, gen_top]
  decide
theorem tr_prod : tr (prodL (fun r => [r, 1]) (alL 32) 32) = genL 32 := by
  rw [← tr_gen 32]
  exact tr_congr fun m => prod_gen (alL 32) 32 32 (fun j hj => co_tab _ _ _ hj) (Nat.le_refl _) m
def CgAt (w : World) (g : Nat) (i : Value) (wr : World) : Prop :=
  ∃ k : Nat, k ≤ 32 ∧ i = .int .i64 k ∧ (∃ ys : List UInt8, ys.length = 32 ∧ (∀ j, j < k → co ys j = Gf.al j) ∧ wr.heap[g]? = some (.cells (bytesV ys).toArray 125 (0, 0))) ∧ Below w.heap.size w wr
theorem row_typed {X : World} {A : Nat} {z : List UInt8} {T : TypeId} (h : X.heap[A]? = some (.cells (bytesV z).toArray T (0, 0))) (hm : z.length ≤ maxLen) : RowIs X (some ⟨A, 0, none⟩) (bytesV z) z.length :=
  ⟨by simp, hm, fun h => (by cases h), fun h0 => ⟨A, 0, rfl, (Array.getElem?_eq_some_iff.1 h).1, fun i v hv => by
    unfold World.cell?
    rw [h]
    show (bytesV z).toArray[0 + i]? = _
    rw [Nat.zero_add, List.getElem?_toArray]
    exact hv⟩⟩
end Go.Proofs.YtomkkkbdipcjgaaDoor
namespace Go.Proofs.YtomkkkbdipcjgaaDoor
open Go.RowKit
set_option linter.unusedVariables false
set_option linter.unusedSimpArgs false
def PwAt (a n : Nat) (m out : Value) : Prop := ∃ k : Nat, k ≤ n ∧ m = .int .i64 (n - k : Nat) ∧ out = .int .u8 (Gf.pw a k : Nat)
end Go.Proofs.YtomkkkbdipcjgaaDoor
namespace Go.Proofs.YtomkkkbdipcjgaaDoor
open Go.RowKit
set_option linter.unusedVariables false
set_option linter.unusedSimpArgs false
/-- the value that stands for a place, or nought -/
def pwv (n p : Int) : UInt8 := if 33 ≤ n ∧ n ≤ 255 ∧ 0 ≤ p ∧ p < n then Gf.al (n - 1 - p).toNat else 0
end Go.Proofs.YtomkkkbdipcjgaaDoor
namespace Go.Proofs.YtomkkkbdipcjgaaDoor
open Go.RowKit
set_option linter.unusedVariables false
set_option linter.unusedSimpArgs false
theorem info_int : (Tryd.prog.info? 3).map (fun i => (i.zero, i.size, i.bytes)) = some (some (.int .i64 0), 1, 8) := by kernel_rfl
/-- a slice that reads as a list of ints -/
def IntsV (z : List Int) (x : Value) (v : World) : Prop := ∃ o c, x = .slice o z.length c ∧ RowIs v o (intsV z) c
theorem IntsV.later {z : List Int} {x : Value} {v v' : World} (h : IntsV z x v) (hb : Below v.heap.size v v') : IntsV z x v' := by
  obtain ⟨o, c, e, h⟩ := h
  exact ⟨o, c, e, h.later hb⟩
theorem owns_ints {W : World} {n : Nat} {v : Value} {z : List Int} {m : Nat} (h : W.ownsRow n 3 1 v m (intsV z)) (hm : m = z.length) : IntsV z v W := by
  subst hm
  have h00 := h
  obtain ⟨hl, hx⟩ := h
  rcases hx with ⟨rfl, h0⟩ | ⟨g, cap, cur, rfl, hg, hh, h1, h2, hcur, htake⟩
  · refine ⟨none, 0, by rw [h0], ⟨by simp [h0], Nat.zero_le _, fun _ => rfl, fun h => ?_⟩⟩
    simp [h0] at h
  · exact ⟨_, cap, rfl, ⟨by simpa using h1, h2, (fun e => by cases e), fun _ => ⟨g, 0, rfl, (Array.getElem?_eq_some_iff.1 hh).1, fun i u hu => by
      have hi := (List.getElem?_eq_some_iff.1 hu).1
      rw [Nat.zero_add, World.ownsRow.cellAt h00 i (by simp at hi; omega)]
      exact hu⟩⟩⟩
theorem own_belowI {w0 w w' : World} {v : Value} {xs : List Value} {m : Nat} (hb : Below w0.heap.size w0 w) (h : w.ownsRow w0.heap.size 3 1 v m xs) (hg : w.grownBy w' v.ownBlock) : Below w0.heap.size w0 w' :=
  hb.grown hg hb.size (fun k e => (World.ownsRow.lt h k e).1)
theorem append_int {ops : Array Oper} {rest : List Oper} {o : Oper} {a : Act} {Q : Exit → Act → World → Prop} {w : World} (hgd : o.guard = none) (s x : Operand)
    (ho : o.op = .call { callee := .builtin .append, args := #[s, x], argTypes := #[74, 74] })
    (base : Nat) (v : Value) (n : Nat) (z : List Int) (hs : a.eval s = v) (hown : w.ownsRow base 3 1 v n (intsV z))
    (g : Nat) (y : Int) (hx : a.eval x = .slice (some ⟨g, 0, none⟩) 1 1) (hg : w.cell? ⟨g, 0, none⟩ = some (.int .i64 y)) (hl : n ≤ 10000000) (hbase : base ≤ w.heap.size)
    (h : ∀ v' w', w'.ownsRow base 3 1 v' (n + 1) (intsV (z ++ [y])) → w.grownBy w' v.ownBlock → wpList Tryd.prog ops Q rest (a.put o.dst v') w') : wpList Tryd.prog ops Q (o :: rest) a w := by
  obtain ⟨i0, hi, hz0, hz1, hz2⟩ := info_parts info_int
  have e : intsV (z ++ [y]) = intsV z ++ [.int .i64 y] := by simp [intsV]
  rw [e] at h
  refine wpList_append_own_wide w hgd s x 74 ho base 3 i0 (.int .i64 0) 1 8 Tryd.underlying74 hi hz0 hz1 hz2 rfl (by decide) v n (intsV z) hs hown ⟨g, 0, none⟩ 1 1 [.int .i64 y] hx (by simp) (fun j u hj => ?_) (fun u hu => ?_) (by unfold maxLen; omega) (by omega) hbase ?_
  · have h1 := (List.getElem?_eq_some_iff.1 hj).1
    simp at h1
    subst h1
    simp at hj
    subst hj
    exact hg
  · simp at hu
    subst hu
    rfl
  · intro v' w' h1 h2 _
    exact h v' w' h1 h2
/-- where two words differ, of the first n places -/
def dfL (a b : List UInt8) : Nat → List Int
  | 0 => []
  | k + 1 => if co a k = co b k then dfL a b k else dfL a b k ++ [(k : Int)]
theorem dfL_length (a b : List UInt8) (k : Nat) : (dfL a b k).length ≤ k := by
  induction k with
  | zero => exact Nat.le_refl _
  | succ k ih =>
    rw [dfL]
    split
    · omega
    · simp; omega
theorem dfL_prefix (a b : List UInt8) (k m : Nat) : ∃ t, dfL a b (k + m) = dfL a b k ++ t := by
  induction m with
  | zero => exact ⟨[], by simp⟩
  | succ m ih =>
    obtain ⟨t, ht⟩ := ih
    rw [← Nat.add_assoc, dfL]
    split
    · exact ⟨t, ht⟩
    · exact ⟨t ++ [((k + m : Nat) : Int)], by rw [ht, List.append_assoc]⟩
theorem dfL_at (a b : List UInt8) (k n : Nat) (h : k < n) (hd : co a k ≠ co b k) : (dfL a b k).length < (dfL a b n).length ∧ (dfL a b n)[(dfL a b k).length]? = some (k : Int) := by
  obtain ⟨t, ht⟩ := dfL_prefix a b (k + 1) (n - (k + 1))
  rw [show k + 1 + (n - (k + 1)) = n by omega, dfL, if_neg hd] at ht
  rw [ht]
  simp
theorem dfL_count (a b : List UInt8) (h : a.length = b.length) (n : Nat) (hn : n ≤ a.length) : (dfL a b n).length = ((Gf.sumW a b).take n).countP (· != 0) := by
  induction n with
  | zero => simp [dfL]
  | succ n ih =>
    have hs : n < (Gf.sumW a b).length := by simp [Gf.sumW]; omega
    have hco : co (Gf.sumW a b) n = co a n ^^^ co b n := by
      simp [co, Gf.sumW, List.getD_eq_getElem?_getD, List.getElem?_zipWith, show n < a.length by omega, show n < b.length by omega]
    have e : (Gf.sumW a b).take (n + 1) = (Gf.sumW a b).take n ++ [co (Gf.sumW a b) n] := by
      rw [List.take_add_one, List.getElem?_eq_getElem hs]
      simp [co, hs]
    rw [dfL, e, List.countP_append, ← ih (by omega), hco]
    by_cases hc : co a n = co b n
    · rw [if_pos hc, hc, UInt8.xor_self]
      simp
    · rw [if_neg hc]
      have hx : co a n ^^^ co b n ≠ 0 := fun h0 => hc (Gf.xor_eq_zero _ _ h0)
      simp [hx]
theorem dfL_diffs (a b : List UInt8) (h : a.length = b.length) : (dfL a b a.length).length = diffs a b := by
  rw [dfL_count a b h _ (Nat.le_refl _), List.take_of_length_le (by simp [Gf.sumW, h])]
  rfl
theorem dfL_same (a : List UInt8) (n : Nat) : dfL a a n = [] := by
  induction n with
  | zero => rfl
  | succ n ih => rw [dfL, if_pos rfl, ih]
def DfAt (a b : List UInt8) (w : World) (v i : Value) (wr : World) : Prop :=
  ∃ k : Nat, k ≤ a.length ∧ i = .int .i64 k ∧ wr.ownsRow w.heap.size 3 1 v (dfL a b k).length (intsV (dfL a b k)) ∧ Below w.heap.size w wr
end Go.Proofs.YtomkkkbdipcjgaaDoor
namespace Go.Proofs.YtomkkkbdipcjgaaDoor
open Go.RowKit
set_option linter.unusedVariables false
set_option linter.unusedSimpArgs false
def ci (z : List Int) (k : Nat) : Int := z.getD k 0
/-- the values that stand for places -/
def xsL (n : Nat) (z : List Int) : List UInt8 := z.map fun p => Gf.al (n - 1 - p.toNat)
theorem co_xsL (n : Nat) (z : List Int) (k : Nat) (h : k < z.length) : co (xsL n z) k = Gf.al (n - 1 - (ci z k).toNat) := by
  simp [co, xsL, ci, List.getD_eq_getElem?_getD, h]
theorem inv_step (z : List UInt8) (k : Nat) : tr (mulL (tr (prodL (fun r => [1, r]) z k)) [1, co z k]) = tr (prodL (fun r => [1, r]) z (k + 1)) := tr_congr (mulL_congr (co_tr _) (fun _ => rfl))
def ErTo (n : Nat) (z : List Int) (w : World) (e : Ending) (w' : World) : Prop :=
  Below w.heap.size w w' ∧ (((∃ k, k < z.length ∧ (ci z k < 0 ∨ (n : Int) ≤ ci z k)) ∧ e = .returned (.tuple #[.slice none 0 0, .int .i64 1])) ∨
    ((∀ k, k < z.length → 0 ≤ ci z k ∧ ci z k < n) ∧ (((∃ i j, j < i ∧ i < z.length ∧ ci z i = ci z j) ∧ e = .returned (.tuple #[.slice none 0 0, .int .i64 10])) ∨
      ((∀ i j, j < i → i < z.length → ci z i ≠ ci z j) ∧ ((32 < z.length ∧ e = .returned (.tuple #[.slice none 0 0, .int .i64 16])) ∨
        (z.length ≤ 32 ∧ ∃ x, e = .returned (.tuple #[x, .int .i64 0]) ∧ RowV (tr (prodL (fun r => [1, r]) (xsL n z) z.length)) x w'))))))
def E1At (n : Nat) (z : List Int) (w : World) (i : Value) (wr : World) : Prop := ∃ k : Nat, k ≤ z.length ∧ i = .int .i64 k ∧ (∀ j, j < k → 0 ≤ ci z j ∧ ci z j < n) ∧ wr = w
def E2At (z : List Int) (w : World) (i : Value) (wr : World) : Prop := ∃ k : Nat, k ≤ z.length ∧ i = .int .i64 k ∧ (∀ a b, b < a → a < k → ci z a ≠ ci z b) ∧ wr = w
def E3At (z : List Int) (k : Nat) (w : World) (i : Value) (wr : World) : Prop := ∃ j : Nat, j ≤ k ∧ i = .int .i64 j ∧ (∀ b, b < j → ci z k ≠ ci z b) ∧ wr = w
def E4At (n : Nat) (z : List Int) (w : World) (v i : Value) (wr : World) : Prop := ∃ k : Nat, k ≤ z.length ∧ i = .int .i64 k ∧ RowV (tr (prodL (fun r => [1, r]) (xsL n z) k)) v wr ∧ Below w.heap.size w wr
end Go.Proofs.YtomkkkbdipcjgaaDoor
namespace Go.Proofs.YtomkkkbdipcjgaaDoor
open Go.ChangeShapes Go.WideShapes Go.ChangeAt Go.RowKit
set_option linter.unusedVariables false
set_option linter.unusedSimpArgs false
def marksI : List Int := [-91, -92, -93, -94]
def MarkedI (W : World) (B : Nat) (z : List Int) : Prop := W.heap[B]? = some (.cells (intsV (z ++ marksI)).toArray 3 (0, 0))
theorem MarkedI.later {W W' : World} {B : Nat} {z : List Int} (h : MarkedI W B z) (hb : Below W.heap.size W W') : MarkedI W' B z := by
  unfold MarkedI at *
  rw [hb.block B (Array.getElem?_eq_some_iff.1 h).1]; exact h
theorem MarkedI.cell {W : World} {B : Nat} {z : List Int} (h : MarkedI W B z) (i : Nat) : W.cell? ⟨B, i, none⟩ = (intsV (z ++ marksI))[i]? := by
  rw [cell_of_row _ _ i _ _ _ h]
  simp
theorem MarkedI.row {W : World} {B : Nat} {z : List Int} (h : MarkedI W B z) (hl : z.length ≤ 1000) : RowIs W (some ⟨B, 0, none⟩) (intsV z) (z.length + 4) :=
  ⟨by simp, by unfold maxLen; omega, fun h => (by cases h), fun h0 => ⟨B, 0, rfl, (Array.getElem?_eq_some_iff.1 h).1, fun i v hv => by
    rw [Nat.zero_add, h.cell]
    have hi := (List.getElem?_eq_some_iff.1 hv).1
    unfold intsV at *
    rw [List.map_append, List.getElem?_append_left hi]; exact hv⟩⟩
def IntsEnd (w : World) (z : List Int) (e : Ending) (w' : World) : Prop :=
  ∃ B, e = .returned (.slice (some ⟨B, 0, none⟩) z.length (z.length + 4)) ∧ Below w.heap.size w w' ∧ w.heap.size ≤ B ∧ MarkedI w' B z
theorem intsEnd_of {w w1 : World} {z : List Int} {g : Nat} (hown : w1.ownsRow w.heap.size 3 1 (.slice (some ⟨g, 0, none⟩) (z.length + 4) (z.length + 4)) (z.length + 4) (intsV z ++ intsV marksI)) (hg : w.heap.size ≤ g) (hb : Below w.heap.size w w1) :
    IntsEnd w z (.returned (.slice (some ⟨g, 0, none⟩) z.length (z.length + 4))) w1 := by
  refine ⟨g, rfl, hb, hg, ?_⟩
  obtain ⟨hl, hx⟩ := hown
  rcases hx with ⟨h, _⟩ | ⟨g', cap, cur, h, _, hh, _, _, hcur, htake⟩
  · cases h
  · injection h with h1 h2 h3
    injection h1 with h1
    injection h1 with h1
    subst h1; subst h3
    unfold MarkedI
    rw [hh]
    have e : cur.toList = intsV z ++ intsV marksI := by
      rw [← htake, List.take_of_length_le (by simp [hcur])]
    have e2 : cur = (intsV (z ++ marksI)).toArray := by
      apply Array.ext'
      rw [e]; simp [intsV]
    rw [e2]
def SiAt2 (n : Nat) (w : World) (i : Value) (wr : World) : Prop := ∃ k : Nat, k ≤ n ∧ i = .int .i64 k ∧ Kit.Dn w wr
def KiAt (w : World) (i : Value) (wr : World) : Prop := ∃ k : Nat, k ≤ 4 ∧ i = .int .i64 k ∧ Kit.Dn w wr
theorem marksI_get (k : Nat) (hk : k < 4) : marksI.getD k 0 = -91 - k := by
  match k, hk with
  | 0, _ | 1, _ | 2, _ | 3, _ => rfl
  | n + 4, h => omega
end Go.Proofs.YtomkkkbdipcjgaaDoor
