/- Contracts in terms of rows: what is handed over is a slice that reads as a list. -/
import Derived.Test.YthbmbobjalgafaaDoorAd
import Derived.Test.YthbmbobjalgafaaDoorRg
namespace Go.Proofs.YthbmbobjalgafaaDoor
open Go.RowKit
set_option linter.unusedVariables false
set_option linter.unusedSimpArgs false
/-- a slice that reads as a list of bytes -/
def RowV (z : List UInt8) (x : Value) (v : World) : Prop := ∃ o c, x = .slice o z.length c ∧ RowIs v o (bytesV z) c
theorem RowV.later {z : List UInt8} {x : Value} {v v' : World} (h : RowV z x v) (hb : Below v.heap.size v v') : RowV z x v' := by
  obtain ⟨o, c, e, h⟩ := h
  exact ⟨o, c, e, h.later hb⟩
/-- it answers with a row -/
def Rows (z : List UInt8) (v : World) (e : Ending) (v' : World) : Prop := ∃ x, e = .returned x ∧ RowV z x v' ∧ Below v.heap.size v v'
theorem mul_rv {p q : List UInt8} {x y : Value} {v : World} (hp : RowV p x v) (hq : RowV q y v) (hl : p.length + q.length ≤ 1000000) : Calls Tryd.prog 14 #[x, y] v (Rows (tr (mulL p q)) v) := by
  obtain ⟨o, c, rfl, hp⟩ := hp
  obtain ⟨o2, c2, rfl, hq⟩ := hq
  exact (mul_poly_any p q o o2 c c2 v hp hq hl).mono fun e w ⟨g, cap, h1, h2, h3, h4⟩ => ⟨_, h1, ⟨_, _, rfl, h4⟩, h3⟩
theorem add_rv {p q : List UInt8} {x y : Value} {v : World} (hp : RowV p x v) (hq : RowV q y v) (hl1 : p.length ≤ 1000000) (hl2 : q.length ≤ 1000000) : Calls Tryd.prog 13 #[x, y] v (Rows (tr (addL p q)) v) := by
  obtain ⟨o, c, rfl, hp⟩ := hp
  obtain ⟨o2, c2, rfl, hq⟩ := hq
  exact (add_poly_any p q o o2 c c2 v hp hq hl1 hl2).mono fun e w ⟨g, cap, h1, h2, h3, h4⟩ => ⟨_, h1, ⟨_, _, rfl, h4⟩, h3⟩
theorem conv_rv {p : List UInt8} {x : Value} {v : World} (hp : RowV p x v) : (convert 22 9 x).run Tryd.prog v = .ok (.string ⟨p.toArray⟩) v := by
  obtain ⟨o, c, rfl, hp⟩ := hp
  exact run_string hp Tryd.underlying22 Tryd.underlying5 Tryd.underlying9 _
theorem eql_string (s : ByteArray) (v : World) : (do eqGuard .eql 9 (.tmp 0) (.tmp 0) (.string s) (.string s); binOp .eql 9 (.string s) (.string s) : Sem Value).run Tryd.prog v = .ok (.bool true) v := by
  have := Tryd.underlying9
  go_simp
end Go.Proofs.YthbmbobjalgafaaDoor
