/- Contracts in terms of rows: what is handed over is a slice that reads as a list. -/
import Derived.Test.YtkkmgjjafbjnjaaAd
import Derived.Test.YtkkmgjjafbjnjaaRg
namespace Go.Proofs.Ytkkmgjjafbjnjaa
open Go.RowKit
set_option linter.unusedVariables false
set_option linter.unusedSimpArgs false
/-- a slice that reads as a list of bytes -/
def RowV (z : List UInt8) (x : Value) (v : World) : Prop := ∃ o c, x = .slice o z.length c ∧ RowIs v o (bytesV z) c
theorem RowV.later {z : List UInt8} {x : Value} {v v' : World} (h : RowV z x v) (hb : Below v.heap.size v v') : RowV z x v' := by
  obtain ⟨o, c, e, h⟩ := h
  exact ⟨o, c, e, h.later hb⟩
/-- it answers with a row -/
def Rows (z : List UInt8) (v : World) (e : Ending) (v' : World) : Prop := ∃ x, e = .returned x ∧ RowV z x v' ∧ Below v.heap.size v v'
theorem conv_rv {p : List UInt8} {x : Value} {v : World} (hp : RowV p x v) : (convert 25 9 x).run Try.prog v = .ok (.string ⟨p.toArray⟩) v := by
  obtain ⟨o, c, rfl, hp⟩ := hp
  exact run_string hp Try.underlying25 Try.underlying5 Try.underlying9 _
theorem eql_string (s : ByteArray) (v : World) : (do eqGuard .eql 9 (.tmp 0) (.tmp 0) (.string s) (.string s); binOp .eql 9 (.string s) (.string s) : Sem Value).run Try.prog v = .ok (.bool true) v := by
  have := Try.underlying9
  go_simp
end Go.Proofs.Ytkkmgjjafbjnjaa
