/- The answer of law04 to its example. -/
import Derived.Test.YtgchfijeiggimaaDoorCi
namespace Go.Proofs.YtgchfijeiggimaaDoor
open Go.RowKit
set_option linter.unusedVariables false
set_option linter.unusedSimpArgs false
theorem fz_one {C : List UInt8} (h1 : co C 0 = 1) (h2 : C.length ≤ 1) : tr C = [1] := by
  have h3 := co_lt (ys := C) (i := 0) (by rw [h1]; decide)
  have h4 : C = [1] := list_ext (by simp; omega) fun i hi => by
    obtain rfl : i = 0 := by omega
    rw [h1]; rfl
  rw [h4]; rfl
/-- where nothing is wrong the shortest register has no numbers -/
theorem zero_reg {R C : List UInt8} {L : Nat} (h : RF R C L) (h0 : ∀ i, i < R.length → co R i = 0) : L = 0 ∧ tr C = [1] := by
  have h1 := h.least (co [1]) 0 ⟨rfl, fun i _ hi => by
    show Gf.sm (fun j => Gf.gm (co [1] j) (co R (i - j))) 1 = 0
    show (0 : UInt8) ^^^ Gf.gm (co [1] 0) (co R (i - 0)) = 0
    rw [Nat.sub_zero, h0 i hi, Gf.gm_zero]; rfl⟩
  have h2 := h.len
  exact ⟨by omega, fz_one h.run.one (by omega)⟩
theorem co_for (s g : List UInt8) (i : Nat) (h : i < (forL s g).length) : co (forL s g) i = co (mulL s g) ((tr g).length - 1 + i) := by
  unfold forL at h ⊢
  rw [tab_length] at h
  exact co_tab _ _ _ h
theorem for_zero (g : List UInt8) (i : Nat) (h : i < (forL zsyn g).length) : co (forL zsyn g) i = 0 := by
  rw [co_for _ _ _ h, co_mulL']
  exact Gf.sm_zero fun j _ => by rw [zsyn, zeros_co, Gf.zero_gm]
theorem cfi_zero (CS : Array Value) (hCS : (bytesV zsyn).toArray = CS) (w : World) :
    Calls Tryd.prog 25 #[.agg CS, .int .i64 40, .slice none 0 0] w fun e w' => ∃ x1 x2, e = .returned (.tuple #[.agg #[.int .i64 0, x1, x2], .nilIface]) ∧ RowV [1] x1 w' ∧ (∃ o l c, x2 = .slice o l c) ∧ Below w.heap.size w w' := by
  have hok : EOk 40 [] := ⟨fun k h => absurd h (by simp), fun i j _ h => absurd h (by simp), by simp⟩
  have hz : ∀ C L, RF (forL zsyn (Gf.locL (xsL 40 []))) C L → L = 0 ∧ tr C = [1] := fun C L h => zero_reg h fun i hi => for_zero _ i hi
  have h := cfi_any zsyn [] 40 0 none w (fun _ => ⟨0, 0, none⟩) (by simp [zsyn]) ⟨by simp, by simp, fun _ => rfl, fun h => by simp at h⟩ (by omega) (by omega) (by simp) (fun h => absurd hok h)
    (fun ⟨C, L, h1, h2⟩ => by
      obtain ⟨rfl, h4⟩ := hz C L h1
      rw [h4] at h2
      simp at h2) CS hCS
  refine h.mono ?_
  rintro e w' ⟨hb, ⟨⟨k, hk, _⟩, _⟩ | ⟨_, ⟨⟨i, j, _, hi, _⟩, _⟩ | ⟨_, ⟨h, _⟩ | ⟨_, C, L, hrf, ⟨h2, _⟩ | ⟨_, _, x1, x2, rfl, hx, o2, c2, rfl, _⟩⟩⟩⟩⟩
  · exact absurd hk (by simp)
  · exact absurd hi (by simp)
  · exact absurd h (by simp)
  · obtain ⟨rfl, h4⟩ := hz C L hrf
    rw [h4] at h2
    simp at h2
  · obtain ⟨rfl, h4⟩ := hz C L hrf
    have e : ertL C 40 [] = [1] := by
      unfold ertL
      rw [h4]
      decide +kernel
    exact ⟨x1, _, rfl, (congrArg (fun q => RowV q x1 w') e).mp hx, ⟨_, _, _, rfl⟩, hb⟩
end Go.Proofs.YtgchfijeiggimaaDoor
