/- Append of a row to a row that is owned, at one operation. -/
import Derived.Test.YtgchfijeiggimaaGreatDoorAp
namespace Go.Proofs.YtgchfijeiggimaaGreatDoor
open Go.RowKit
set_option linter.unusedVariables false
theorem wp_append_row {o : Oper} {a : Act} {w : World} {K : Act → World → Prop} {Q : Exit → Act → World → Prop} (s x : Operand)
    (ho : o.op = .call { callee := .builtin .append, args := #[s, x], argTypes := #[22, 22] })
    (base : Nat) (v : Value) (n : Nat) (z : List UInt8) (hs : a.eval s = v) (hown : w.ownsRow base 5 1 v n (bytesV z))
    (ad : Option Addr) (m c : Nat) (y : List UInt8) (hx : a.eval x = .slice ad m c) (hm : m = y.length) (hrow : RowIs w ad (bytesV y) c) (hl : n + m ≤ 10000000) (hbase : base ≤ w.heap.size)
    (h : ∀ v' w', w'.ownsRow base 5 1 v' (n + m) (bytesV (z ++ y)) → w.grownBy w' v.ownBlock → K (a.put o.dst v') w') : o.wp Tryz.prog a w K Q := by
  obtain ⟨i0, hi, hz0, hz1, hz2⟩ := info_parts info_u8
  have e : bytesV (z ++ y) = bytesV z ++ bytesV y := by simp [bytesV]
  rw [e] at h
  subst hm
  cases ad with
  | none =>
    have h0 := hrow.nil rfl
    have hle := hrow.le
    simp only [bytesV_length] at hle
    obtain rfl : y = [] := List.eq_nil_of_length_eq_zero (by omega)
    subst h0
    have hrun := run_append_owned_none (P := Tryz.prog) (w := w) base 22 o.type 5 i0 1 Tryz.underlying22 hi v n (bytesV z) hown
    unfold Oper.wp
    simp [execOp, ho, resolve, invoke, builtin, hs, hx, hrun, Result.andThen]
    exact h v w (by simpa [bytesV] using hown) ⟨rfl, rfl, rfl, Nat.le_refl _, fun _ _ _ => rfl⟩
  | some ad =>
    refine wp_append_own_wide w s x 22 ho base 5 i0 (.int .u8 0) 1 1 Tryz.underlying22 hi hz0 hz1 hz2 rfl (by decide) v n (bytesV z) hs hown ad y.length c (bytesV y) hx (by simp) (hrow.adds ad rfl) (bytesV_one y) (by unfold maxLen; omega) (by omega) hbase ?_
    intro v' w' h1 h2 _
    exact h v' w' h1 h2
end Go.Proofs.YtgchfijeiggimaaGreatDoor
