/- The keys in a row: list, the statements' Row; Same. label.Same. -/
import Derived.Test.YtgpojlblhaphnaaDoorLy
namespace Go.Proofs.YtgpojlblhaphnaaDoor
open Go.RowKit
set_option linter.unusedVariables false
set_option linter.unusedSimpArgs false
/-- five slices -/
def Sl5 (xs : List Value) : Prop := ∃ (o0 o1 o2 o3 o4 : Option Addr) (l0 l1 l2 l3 l4 c0 c1 c2 c3 c4 : Nat), xs = [.slice o0 l0 c0, .slice o1 l1 c1, .slice o2 l2 c2, .slice o3 l3 c3, .slice o4 l4 c4]
theorem Els.five {W : World} {bs : List (List UInt8)} {xs : List Value} (h : Els W bs xs) (hl : bs.length = 5) : Sl5 xs := by
  have hx : xs.length = 5 := h.len.trans hl
  match xs, hx with
  | [x0, x1, x2, x3, x4], _ =>
    obtain ⟨y0, e0, o0, c0, r0, _⟩ := h.get 0 (by omega)
    obtain ⟨y1, e1, o1, c1, r1, _⟩ := h.get 1 (by omega)
    obtain ⟨y2, e2, o2, c2, r2, _⟩ := h.get 2 (by omega)
    obtain ⟨y3, e3, o3, c3, r3, _⟩ := h.get 3 (by omega)
    obtain ⟨y4, e4, o4, c4, r4, _⟩ := h.get 4 (by omega)
    simp at e0 e1 e2 e3 e4
    subst e0 e1 e2 e3 e4
    exact ⟨o0, o1, o2, o3, o4, _, _, _, _, _, c0, c1, c2, c3, c4, by rw [r0, r1, r2, r3, r4]⟩
end Go.Proofs.YtgpojlblhaphnaaDoor
namespace Go.Proofs.YtgpojlblhaphnaaDoor.Da
theorem take_eq_step (a b : List (List UInt8)) (k : Nat) (ha : k < a.length) (hb : k < b.length) : (a.take (k + 1) == b.take (k + 1)) = ((bi a k == bi b k) && (a.take k == b.take k)) := by
  have e : ∀ (l : List (List UInt8)), k < l.length → l.take (k + 1) = l.take k ++ [bi l k] := fun l h => by
    rw [List.take_add_one, List.getElem?_eq_getElem h]
    simp [bi, h]
  rw [e a ha, e b hb]
  by_cases h1 : bi a k = bi b k
  · by_cases h2 : a.take k = b.take k
    · rw [h1, h2]; simp
    · have h3 : ¬ a.take k ++ [bi a k] = b.take k ++ [bi b k] := fun h => h2 (List.append_inj_left' h rfl)
      rw [beq_eq_false_iff_ne.2 h3, beq_eq_false_iff_ne.2 h2, Bool.and_false]
  · have h3 : ¬ a.take k ++ [bi a k] = b.take k ++ [bi b k] := fun h => h1 (by
      have := List.append_inj_right' h rfl
      simpa using this)
    rw [beq_eq_false_iff_ne.2 h3, beq_eq_false_iff_ne.2 h1, Bool.false_and]
end Go.Proofs.YtgpojlblhaphnaaDoor.Da
namespace Go.Proofs.YtgpojlblhaphnaaDoor
open Go.RowKit
set_option linter.unusedVariables false
set_option linter.unusedSimpArgs false
end Go.Proofs.YtgpojlblhaphnaaDoor
