/- Opener: an argument that is a struct of five slices of bytes. -/
import Derived.Test.YtemngcifeglpmaaDoorOp
import Derived.Test.YtemngcifeglpmaaDoorLf
namespace Go.Proofs.YtemngcifeglpmaaDoor
open Go.ChangeShapes Go.WideShapes Go.ChangeAt Go.RowKit
set_option linter.unusedVariables false
theorem open_keys5 {H : Type} {enc : TypeId × Value → H} {P : Program} {W : World} {r : Reach} {base : Nat} {t e : TypeId} {f0 f1 f2 f3 f4 : Field} {v : Value} {d : DataW H} {p : List MemPlace}
    (ht : P.underlying t = some (.struct #[f0, f1, f2, f3, f4])) (hct : P.cellsOf t = 5) (o0 : f0.offset = 0) (o1 : f1.offset = 1) (o2 : f2.offset = 2) (o3 : f3.offset = 3) (o4 : f4.offset = 4)
    (c0 : P.cellsOf f0.type = 1) (c1 : P.cellsOf f1.type = 1) (c2 : P.cellsOf f2.type = 1) (c3 : P.cellsOf f3.type = 1) (c4 : P.cellsOf f4.type = 1)
    (u0 : P.underlying f0.type = some (.slice e)) (u1 : P.underlying f1.type = some (.slice e)) (u2 : P.underlying f2.type = some (.slice e)) (u3 : P.underlying f3.type = some (.slice e)) (u4 : P.underlying f4.type = some (.slice e))
    (he : P.underlying e = some (.int .u8)) (ce : P.cellsOf e = 1) (hval : Value.okWide P W r base t v)
    (h : DataW.Trod enc P W 0 (fun _ => true) true t v d p) (hlt : ∀ x ∈ p, x.block < W.heap.size) :
    ∃ (xs : List Value) (bs : List (List UInt8)), v = .agg xs.toArray ∧ Els W bs xs ∧ bs.length = 5 := by
  obtain ⟨cs, rfl, hsz⟩ : ∃ cs, v = .agg cs ∧ cs.size = P.cellsOf t := by
    simp only [Value.okWide, ht] at hval
    obtain ⟨cs, h1, h2, _⟩ := hval
    exact ⟨cs, h1, h2⟩
  obtain ⟨fuel, hf⟩ := h
  obtain ⟨ys, n, _, hx, hl, hlen, hg⟩ := DataW.trod_struct ht hf
  rw [hct] at hsz
  obtain ⟨l⟩ := cs
  match l, hsz, ys, hlen with
  | [a0, a1, a2, a3, a4], _, [y0, y1, y2, y3, y4], _ =>
    have g0 := hg 0 f0 rfl
    have g1 := hg 1 f1 rfl
    have g2 := hg 2 f2 rfl
    have g3 := hg 3 f3 rfl
    have g4 := hg 4 f4 rfl
    simp only [Value.cells, o0, o1, o2, o3, o4, c0, c1, c2, c3, c4, List.drop_zero, List.drop_succ_cons, List.take_succ_cons, List.take_zero, List.getElem?_cons_zero, List.getElem?_cons_succ] at g0 g1 g2 g3 g4
    simp only [Prod.mk.injEq] at hx
    obtain ⟨rfl, rfl⟩ := hx
    obtain ⟨p0, q0, z0, e0, r0⟩ := open_bytes5 u0 he ce g0 (fun x hx => hlt x (by simp [hx]))
    obtain ⟨p1, q1, z1, e1, r1⟩ := open_bytes5 u1 he ce g1 (fun x hx => hlt x (by simp [hx]))
    obtain ⟨p2, q2, z2, e2, r2⟩ := open_bytes5 u2 he ce g2 (fun x hx => hlt x (by simp [hx]))
    obtain ⟨p3, q3, z3, e3, r3⟩ := open_bytes5 u3 he ce g3 (fun x hx => hlt x (by simp [hx]))
    obtain ⟨p4, q4, z4, e4, r4⟩ := open_bytes5 u4 he ce g4 (fun x hx => hlt x (by simp [hx]))
    subst e0 e1 e2 e3 e4
    exact ⟨_, [z0, z1, z2, z3, z4], rfl, ((((Els.one ⟨_, _, rfl, r0⟩).app (Els.one ⟨_, _, rfl, r1⟩)).app (Els.one ⟨_, _, rfl, r2⟩)).app (Els.one ⟨_, _, rfl, r3⟩)).app (Els.one ⟨_, _, rfl, r4⟩), rfl⟩
end Go.Proofs.YtemngcifeglpmaaDoor
