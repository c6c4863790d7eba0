/- An argument that is layer 15's struct Params: six numbers. -/
import Derived.Test.YtomkkkbdipcjgaaDoorGp15
import Derived.Test.YtomkkkbdipcjgaaDoorOp
namespace Go.Proofs.YtomkkkbdipcjgaaDoor
open Go.RowKit
set_option linter.unusedVariables false
set_option linter.unusedSimpArgs false
theorem open_pm15 {H : Type} {enc : TypeId × Value → H} {P : Program} {W : World} {r : Reach} {base : Nat} {t : TypeId} {f0 f1 f2 f3 f4 f5 : Field} {v : Value} {d : DataW H} {p : List MemPlace}
    (ht : P.underlying t = some (.struct #[f0, f1, f2, f3, f4, f5])) (hct : P.cellsOf t = 6) (o0 : f0.offset = 0) (o1 : f1.offset = 1) (o2 : f2.offset = 2) (o3 : f3.offset = 3) (o4 : f4.offset = 4) (o5 : f5.offset = 5)
    (c0 : P.cellsOf f0.type = 1) (c1 : P.cellsOf f1.type = 1) (c2 : P.cellsOf f2.type = 1) (c3 : P.cellsOf f3.type = 1) (c4 : P.cellsOf f4.type = 1) (c5 : P.cellsOf f5.type = 1)
    (u0 : P.underlying f0.type = some (.int .i64)) (u1 : P.underlying f1.type = some (.int .i64)) (u2 : P.underlying f2.type = some (.int .i64)) (u3 : P.underlying f3.type = some (.int .i64)) (u4 : P.underlying f4.type = some (.int .i64)) (u5 : P.underlying f5.type = some (.int .i64))
    (hval : Value.okWide P W r base t v) (h : DataW.Trod enc P W 0 (fun _ => true) true t v d p) : ∃ q : Pm15, v = .agg (pmA q) ∧ q.ok := by
  obtain ⟨cs, rfl, hsz⟩ : ∃ cs, v = .agg cs ∧ cs.size = P.cellsOf t := by
    simp only [Value.okWide, ht] at hval
    obtain ⟨cs, h1, h2, _⟩ := hval
    exact ⟨cs, h1, h2⟩
  obtain ⟨fuel, hf⟩ := h
  obtain ⟨ys, nn, _, hx, hl, hlen, hg⟩ := DataW.trod_struct ht hf
  rw [hct] at hsz
  have hy5 : ys.length = 6 := hlen
  have g0 := hg 0 f0 rfl
  have g1 := hg 1 f1 rfl
  have g2 := hg 2 f2 rfl
  have g3 := hg 3 f3 rfl
  have g4 := hg 4 f4 rfl
  have g5 := hg 5 f5 rfl
  rw [List.getElem?_eq_getElem (by omega)] at g0 g1 g2 g3 g4 g5
  simp only [Value.cells, o0, o1, o2, o3, o4, o5, c0, c1, c2, c3, c4, c5, List.drop_zero] at g0 g1 g2 g3 g4 g5
  obtain ⟨l⟩ := cs
  have hsl : l.length = 6 := by simpa using hsz
  have one : ∀ k (hk : k < 6), (l.drop k).take 1 = [l[k]'(by omega)] := fun k hk => by
    rw [List.drop_eq_getElem_cons (by omega)]; rfl
  have z0 := one 0 (by omega)
  rw [List.drop_zero] at z0
  rw [z0] at g0
  rw [one 1 (by omega)] at g1
  rw [one 2 (by omega)] at g2
  rw [one 3 (by omega)] at g3
  rw [one 4 (by omega)] at g4
  rw [one 5 (by omega)] at g5
  obtain ⟨k0, hk0, _, hw0⟩ := DataW.trod_int u0 g0
  obtain ⟨k1, hk1, _, hw1⟩ := DataW.trod_int u1 g1
  obtain ⟨k2, hk2, _, hw2⟩ := DataW.trod_int u2 g2
  obtain ⟨k3, hk3, _, hw3⟩ := DataW.trod_int u3 g3
  obtain ⟨k4, hk4, _, hw4⟩ := DataW.trod_int u4 g4
  obtain ⟨k5, hk5, _, hw5⟩ := DataW.trod_int u5 g5
  refine ⟨⟨k0, k1, k2, k3, k4, k5⟩, ?_, ⟨i64_wf hw0, i64_wf hw1, i64_wf hw2, i64_wf hw3, i64_wf hw4, i64_wf hw5⟩⟩
  congr 1
  have e0 : l[0]'(by omega) = .int .i64 k0 := by simpa using hk0
  have e1 : l[1]'(by omega) = .int .i64 k1 := by simpa using hk1
  have e2 : l[2]'(by omega) = .int .i64 k2 := by simpa using hk2
  have e3 : l[3]'(by omega) = .int .i64 k3 := by simpa using hk3
  have e4 : l[4]'(by omega) = .int .i64 k4 := by simpa using hk4
  have e5 : l[5]'(by omega) = .int .i64 k5 := by simpa using hk5
  apply Array.toList_inj.1
  show l = pmL ⟨k0, k1, k2, k3, k4, k5⟩
  match l, hsl, e0, e1, e2, e3, e4, e5 with
  | [x0, x1, x2, x3, x4, x5], _, e0, e1, e2, e3, e4, e5 =>
    simp only [List.getElem_cons_zero, List.getElem_cons_succ] at e0 e1 e2 e3 e4 e5
    subst e0 e1 e2 e3 e4 e5
    rfl
end Go.Proofs.YtomkkkbdipcjgaaDoor
