/- The table that field.Make makes. -/
import Derived.Test.YtkkmgjjafbjnjaaFw
import Derived.RegionTactic
import Derived.Outline
import Derived.Deep.QuietTactic
import Derived.BigQuiet
import Derived.ChangeAlike
namespace Go.Proofs.Ytkkmgjjafbjnjaa
open Go.RowKit
set_option linter.unusedVariables false
namespace Gf
/-- a table after k rounds -/
structure TabK (k : Nat) (C : Array Value) : Prop where
  size : C.size = 766
  low : ∀ i, i < k → C[i]? = some (.int .u8 (ex i : Nat))
  high : ∀ i, i < k → C[i + 255]? = some (.int .u8 (ex i : Nat))
  zero : C[510]? = some (.int .i64 (-1))
  log : ∀ i, i < k → C[510 + ex i]? = some (.int .i64 i)
theorem TabK.step {k : Nat} {C : Array Value} (h : TabK k C) (hk : k < 255) :
    TabK (k + 1) (((C.setIfInBounds k (.int .u8 (ex k : Nat))).setIfInBounds (k + 255) (.int .u8 (ex k : Nat))).setIfInBounds (510 + ex k) (.int .i64 k)) := by
  have hs := h.size
  have he := ex_lt k
  have h0 := ex_ne k
  refine ⟨by simp [hs], ?_, ?_, ?_, ?_⟩
  · intro i hi
    simp only [Array.getElem?_setIfInBounds, Array.size_setIfInBounds]
    rw [if_neg (by omega), if_neg (by omega)]
    by_cases hik : k = i
    · subst hik; rw [if_pos rfl, if_pos (by omega)]
    · rw [if_neg hik]; exact h.low i (by omega)
  · intro i hi
    simp only [Array.getElem?_setIfInBounds, Array.size_setIfInBounds]
    rw [if_neg (by omega)]
    by_cases hik : k = i
    · subst hik; rw [if_pos rfl, if_pos (by omega)]
    · rw [if_neg (by omega), if_neg (by omega)]; exact h.high i (by omega)
  · simp only [Array.getElem?_setIfInBounds, Array.size_setIfInBounds]
    rw [if_neg (by omega), if_neg (by omega), if_neg (by omega)]; exact h.zero
  · intro i hi
    simp only [Array.getElem?_setIfInBounds, Array.size_setIfInBounds]
    by_cases hik : k = i
    · subst hik; rw [if_pos rfl, if_pos (by omega)]
    · have hne : ex k ≠ ex i := by
        intro hx
        have := (ex_inj k i).1 hx
        rw [Nat.mod_eq_of_lt hk, Nat.mod_eq_of_lt (by omega)] at this
        exact hik this
      rw [if_neg (by omega), if_neg (by omega), if_neg (by omega)]; exact h.log i (by omega)
/-- the whole table -/
structure Tab (C : Array Value) : Prop where
  size : C.size = 766
  exp : ∀ i, i < 510 → C[i]? = some (.int .u8 (ex i : Nat))
  zero : C[510]? = some (.int .i64 (-1))
  log : ∀ i, i < 255 → C[510 + ex i]? = some (.int .i64 i)
theorem TabK.tab {C : Array Value} (h : TabK 255 C) : Tab C := by
  refine ⟨h.size, ?_, h.zero, h.log⟩
  intro i hi
  by_cases hlt : i < 255
  · exact h.low i hlt
  · have := h.high (i - 255) (by omega)
    rw [show i - 255 + 255 = i by omega] at this
    rw [this, ← ex_add_255 (i - 255), show i - 255 + 255 = i by omega]
end Gf
def tz : Array Value := Array.replicate 510 (.int .u8 0) ++ Array.replicate 256 (.int .i64 0)
theorem zero_table (w : World) : Sem.run Try.prog (zeroValue 46) w = .ok (.agg tz) w := by kernel_rfl
theorem set_made (w : World) (C : Array Value) (T : TypeId) (n i : Nat) (v : Value) :
    ((w.alloc (.cells C T)).drewN n).setCell ⟨w.heap.size, i, none⟩ v = (w.alloc (.cells (C.setIfInBounds i v) T)).drewN n := by
  have h : ∀ (x : World), (x.drewN n).setCell ⟨w.heap.size, i, none⟩ v = (x.setCell ⟨w.heap.size, i, none⟩ v).drewN n := fun x => rfl
  rw [h]
  congr 1
  go_simp
def MkAt (w : World) (p i : Value) (wr : World) : Prop :=
  ∃ (k n : Nat) (C : Array Value), k ≤ 255 ∧ p = .int .u8 (Gf.ex k : Nat) ∧ i = .int .i64 k ∧ Gf.TabK k C ∧ wr = (w.alloc (.cells C 46)).drewN n
/-- what Make answers: a new table -/
def MadeTab (w : World) (e : Ending) (w' : World) : Prop :=
  ∃ (n : Nat) (C : Array Value), Gf.Tab C ∧ e = .returned (.pointer (some ⟨w.heap.size, 0, none⟩)) ∧ w' = (w.alloc (.cells C 46)).drewN n
set_option maxRecDepth 100000 in
theorem make_of (Z : Array Value) (hs : Z.size = 766) (z : Value) (hz1 : Z[510]? = some z) (w : World) (hz : ∀ w, Sem.run Try.prog (zeroValue 46) w = .ok (.agg Z) w) :
    Calls Try.prog 21 #[] w (MadeTab w) := by
  have HS := Lib.hid hs
  clear hs
  go_enter Try.func21, Try.ntmps21
  go_wp2
  clear hz
  go_loopw [2, 10] (fun p i wr => MkAt w p i wr) (fun _ i _ => 255 - (intOf i).toNat)
  case atStart =>
    refine ⟨0, 0, _, by decide, rfl, rfl, ⟨by simp [HS.out], fun i h => absurd h (by omega), fun i h => absurd h (by omega), ?_, fun i h => absurd h (by omega)⟩, rfl⟩
    simp [HS.out]
  case round =>
    obtain ⟨k, n, C, hk, rfl, rfl, hC, rfl⟩ := hrel
    have hCs := hC.size
    by_cases hlt : k < 255
    · obtain ⟨x1, h1⟩ : ∃ x, C[k]? = some x := ⟨C[k]'(by omega), by simp⟩
      obtain ⟨x2, h2⟩ : ∃ x, C[k + 255]? = some x := ⟨C[k + 255]'(by omega), by simp⟩
      have HC := Lib.hid hC
      have HCs := Lib.hid hCs
      clear hC hCs
      go_wp2
      go_region
      rw [set_made, set_made]
      generalize hD : (C.setIfInBounds k (Value.int IntKind.u8 ↑(Gf.ex k))).setIfInBounds (k + 255) (Value.int IntKind.u8 ↑(Gf.ex k)) = D
      have hDs : D.size = 766 := by rw [← hD]; simp [HCs.out]
      have hel := Gf.ex_lt k
      obtain ⟨x3, h3⟩ : ∃ x, D[510 + Gf.ex k]? = some x := ⟨D[510 + Gf.ex k]'(by omega), by simp⟩
      have HD := Lib.hid hD
      have HDs := Lib.hid hDs
      clear hD hDs h1 h2
      go_wp2_with (go_at_call 23; refine (double_any (Gf.ex k) hel _).mono ?_; rintro e w' ⟨rfl, rfl⟩)
      refine ⟨⟨k + 1, n + 1, D.setIfInBounds (510 + Gf.ex k) (.int .i64 k), by omega, rfl, by go_num, ?_, set_made w D _ _ _ _⟩, by simp [intOf]; omega⟩
      rw [← HD.out]
      exact HC.out.step hlt
    · obtain rfl : k = 255 := by omega
      clear hCs
      have HC := Lib.hid hC
      clear hC
      go_wp2
      go_ret
      exact ⟨n, C, HC.out.tab, rfl, rfl⟩
theorem make_any (w : World) : Calls Try.prog 21 #[] w (MadeTab w) := by
  refine make_of tz ?_ (.int .i64 0) ?_ w zero_table
  · simp [tz]
  · simp [tz]
theorem below_dn {B : Nat} {a w : World} (h : Below B a w) (n : Nat) : Below B a (w.drewN n) := h.trans ⟨rfl, rfl, rfl, Nat.le_refl _, fun _ _ => rfl⟩
theorem made_below {w : World} {C : Array Value} {T : TypeId} {n : Nat} : Below w.heap.size w ((w.alloc (.cells C T)).drewN n) := by
  have h : ∀ n, Below w.heap.size w ((w.alloc (.cells C T)).drewN n) := by
    intro n
    induction n with
    | zero => exact (Below.refl _ _).alloc (Nat.le_refl _) _
    | succ n ih => exact ih.drew
  exact h n

end Go.Proofs.Ytkkmgjjafbjnjaa
