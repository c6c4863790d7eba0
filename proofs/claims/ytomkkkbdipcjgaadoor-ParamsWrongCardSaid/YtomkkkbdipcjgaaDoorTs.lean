/- Contracts of Scale and Low. Contract of Shift. -/
import Derived.Test.YtomkkkbdipcjgaaDoorGn
import Derived.Test.YtomkkkbdipcjgaaDoorApw
namespace Go.Proofs.YtomkkkbdipcjgaaDoor
open Go.RowKit
set_option linter.unusedVariables false
set_option linter.unusedSimpArgs false
theorem mix_scale (p : List UInt8) (a : UInt8) : mix (List.replicate p.length 0) 0 p a = scaleL p a := by
  refine list_ext (by simp [scaleL]) fun i hi => ?_
  rw [co_mix _ _ _ _ _ (by simpa using hi), co_scaleL, zeros_co, UInt8.zero_xor]
  unfold Gf.ps
  rw [if_pos (Nat.zero_le _), Nat.sub_zero]
theorem scale_mul (p : List UInt8) (a : UInt8) : tr (scaleL p a) = tr (mulL p [a]) := tr_congr fun k => by
  rw [co_scaleL, co_mulL']
  show _ = Gf.sm _ k ^^^ Gf.gm (co p k) (co [a] (k - k))
  rw [Gf.sm_zero, UInt8.zero_xor, Nat.sub_self]
  · rfl
  · intro i hi
    rw [co_ge (z := [a]) (by simp; omega), Gf.gm_zero]
/-- how many coefficients Low leaves -/
def lowN (n : Int) (len : Nat) : Nat := if n < 0 then 0 else if (len : Int) < n then len else n.toNat
theorem lowN_le (n : Int) (len : Nat) : lowN n len ≤ len := by
  unfold lowN
  split
  · omega
  · split <;> omega
end Go.Proofs.YtomkkkbdipcjgaaDoor
namespace Go.Proofs.YtomkkkbdipcjgaaDoor
open Go.RowKit
set_option linter.unusedVariables false
set_option linter.unusedSimpArgs false
/-- by how much Shift shifts -/
def shN (n : Int) : Nat := if n < 0 then 0 else if 1000 < n then 1000 else n.toNat
theorem shift_tr (p : List UInt8) (k m : Nat) (hm : m = k + p.length) : tr (splice (List.replicate m 0) k p) = tr (shiftL p k) := tr_congr fun i => by
  rw [co_splice _ _ _ _ (by simp; omega), co_shiftL, zeros_co]
  unfold Gf.ps
  by_cases h : k ≤ i
  · rw [if_pos h]
    by_cases h2 : i < k + p.length
    · rw [if_pos ⟨h, h2⟩]
    · rw [if_neg (fun g => h2 g.2), co_ge (by omega)]
  · rw [if_neg h, if_neg (fun g => h g.1)]
end Go.Proofs.YtomkkkbdipcjgaaDoor
