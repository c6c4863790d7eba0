/- append of a row that is read to a row that the call owns. -/
import Derived.Test.YtkkmgjjafbjnjaaRv
import Derived.Deep.DeepAppendWide
import Derived.Laws.AppendOwnNone
namespace Go.Proofs.Ytkkmgjjafbjnjaa
open Go.RowKit
set_option linter.unusedVariables false
theorem own_lt {W : World} {n : Nat} {v : Value} {xs : List Value} {m : Nat} (h : W.ownsRow n 5 1 v m xs) : ∀ k, v.ownBlock = some k → n ≤ k := fun k e => (World.ownsRow.lt h k e).1
theorem append_row {ops : Array Oper} {rest : List Oper} {o : Oper} {a : Act} {Q : Exit → Act → World → Prop} {w : World} (hgd : o.guard = none) (s x : Operand)
    (ho : o.op = .call { callee := .builtin .append, args := #[s, x], argTypes := #[25, 25] })
    (base : Nat) (v : Value) (n : Nat) (z : List UInt8) (hs : a.eval s = v) (hown : w.ownsRow base 5 1 v n (bytesV z))
    (ad : Option Addr) (m c : Nat) (y : List UInt8) (hx : a.eval x = .slice ad m c) (hm : m = y.length) (hrow : RowIs w ad (bytesV y) c) (hl : n + m ≤ 10000000) (hbase : base ≤ w.heap.size)
    (h : ∀ v' w', w'.ownsRow base 5 1 v' (n + m) (bytesV (z ++ y)) → w.grownBy w' v.ownBlock → wpList Try.prog ops Q rest (a.put o.dst v') w') : wpList Try.prog ops Q (o :: rest) a w := by
  obtain ⟨i0, hi, hz0, hz1, hz2⟩ := info_parts info_u8
  have e : bytesV (z ++ y) = bytesV z ++ bytesV y := by simp [bytesV]
  rw [e] at h
  subst hm
  cases ad with
  | none =>
    have h0 := hrow.nil rfl
    have hle := hrow.le
    simp only [bytesV_length] at hle
    obtain rfl : y = [] := List.eq_nil_of_length_eq_zero (by omega)
    subst h0
    refine wpList_append_own_none hgd s x 25 ho base 5 i0 1 Try.underlying25 hi v n (bytesV z) hs hown hx ?_
    exact h v w (by simpa [bytesV] using hown) ⟨rfl, rfl, rfl, Nat.le_refl _, fun _ _ _ => rfl⟩
  | some ad =>
    refine wpList_append_own_wide w hgd s x 25 ho base 5 i0 (.int .u8 0) 1 1 Try.underlying25 hi hz0 hz1 hz2 rfl (by decide) v n (bytesV z) hs hown ad y.length c (bytesV y) hx (by simp) (hrow.adds ad rfl) (bytesV_one y) (by unfold maxLen; omega) (by omega) hbase ?_
    intro v' w' h1 h2 _
    exact h v' w' h1 h2
/-- a row that is owned is a row -/
theorem owns_rv {W : World} {n : Nat} {v : Value} {z : List UInt8} {m : Nat} (h : W.ownsRow n 5 1 v m (bytesV z)) (hm : m = z.length) : RowV z v W := by
  subst hm
  obtain ⟨hl, hx⟩ := h
  rcases hx with ⟨rfl, h0⟩ | ⟨g, cap, cur, rfl, _, hh, h1, h2, hcur, htake⟩
  · refine ⟨none, 0, by rw [h0], ⟨by simp [h0], Nat.zero_le _, fun _ => rfl, fun h => ?_⟩⟩
    simp [h0] at h
  · exact ⟨_, cap, rfl, Buf.row (ys := z) ⟨hl, .inr ⟨g, cap, cur, rfl, Nat.zero_le _, hh, h1, h2, hcur, htake⟩⟩⟩
theorem own_below {w0 w w' : World} {n : Nat} {v : Value} {xs : List Value} {m : Nat} (hb : Below w0.heap.size w0 w) (h : w.ownsRow w0.heap.size 5 1 v m xs) (hg : w.grownBy w' v.ownBlock) : Below w0.heap.size w0 w' :=
  hb.grown hg hb.size (fun k e => own_lt h k e)
end Go.Proofs.Ytkkmgjjafbjnjaa
