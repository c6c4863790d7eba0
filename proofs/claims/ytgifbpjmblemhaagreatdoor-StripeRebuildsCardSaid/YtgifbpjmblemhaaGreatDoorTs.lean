/- Contracts of Scale and Low. Contract of Shift. -/
import Derived.Test.YtgifbpjmblemhaaGreatDoorRr
import Derived.Test.YtgifbpjmblemhaaGreatDoorApw
namespace Go.Proofs.YtgifbpjmblemhaaGreatDoor
open Go.RowKit
set_option linter.unusedVariables false
set_option linter.unusedSimpArgs false
theorem mix_scale (p : List UInt8) (a : UInt8) : mix (List.replicate p.length 0) 0 p a = scaleL p a := by
  refine list_ext (by simp [scaleL]) fun i hi => ?_
  rw [co_mix _ _ _ _ _ (by simpa using hi), co_scaleL, zeros_co, UInt8.zero_xor]
  unfold Gf.ps
  rw [if_pos (Nat.zero_le _), Nat.sub_zero]
theorem scale_mul (p : List UInt8) (a : UInt8) : tr (scaleL p a) = tr (mulL p [a]) := tr_congr fun k => by
  rw [co_scaleL, co_mulL']
  show _ = Gf.sm _ k ^^^ Gf.gm (co p k) (co [a] (k - k))
  rw [Gf.sm_zero, UInt8.zero_xor, Nat.sub_self]
  · rfl
  · intro i hi
    rw [co_ge (z := [a]) (by simp; omega), Gf.gm_zero]
/-- how many coefficients Low leaves -/
def lowN (n : Int) (len : Nat) : Nat := if n < 0 then 0 else if (len : Int) < n then len else n.toNat
theorem lowN_le (n : Int) (len : Nat) : lowN n len ≤ len := by
  unfold lowN
  split
  · omega
  · split <;> omega
theorem low_any (p : List UInt8) (n : Int) (o : Option Addr) (c : Nat) (w : World) (hP : RowIs w o (bytesV p) c) (hl : p.length ≤ 1000000) :
    Calls Tryz.prog 61 #[.slice o p.length c, .int .i64 n] w (Rows (tr (p.take (lowN n p.length))) w) := by
  have h1 := hP.le
  have h2 := hP.cap
  simp only [bytesV_length] at h1
  unfold maxLen at h2
  have hlow := lowN_le n p.length
  have hlen : (p.take (lowN n p.length)).length = lowN n p.length := by simp; omega
  have hcal := trim_any (p.take (lowN n p.length)) o c w (hP.take _) (by omega)
  rw [hlen] at hcal
  have HCAL := Lib.hid hcal
  clear hP hcal hlen
  by_cases hn : n < 0
  · have e : lowN n p.length = 0 := by unfold lowN; rw [if_pos hn]
    rw [e] at HCAL ⊢
    clear e hlow
    go_enter Tryz.func61, Tryz.ntmps61
    go_wp2_with fail
    refine HCAL.out.mono ?_; rintro e w1 ⟨x, rfl, hr, hb⟩
    have HR := Lib.hid hr
    have HB := Lib.hid hb
    clear hr hb HCAL
    go_wp2_with fail
    go_ret
    exact ⟨x, rfl, HR.out, HB.out⟩
  · by_cases hm : (p.length : Int) < n
    · have e : lowN n p.length = p.length := by unfold lowN; rw [if_neg hn, if_pos hm]
      rw [e] at HCAL ⊢
      have hn0 : ¬ (0 : Int) > n := by omega
      have hn2 : ¬ n < 0 := hn
      clear e hlow
      go_enter Tryz.func61, Tryz.ntmps61
      go_wp2_with fail
      refine HCAL.out.mono ?_; rintro e w1 ⟨x, rfl, hr, hb⟩
      have HR := Lib.hid hr
      have HB := Lib.hid hb
      clear hr hb HCAL
      go_wp2_with fail
      go_ret
      exact ⟨x, rfl, HR.out, HB.out⟩
    · obtain ⟨k, rfl⟩ := Int.eq_ofNat_of_zero_le (show 0 ≤ n by omega)
      have e : lowN (k : Int) p.length = k := by unfold lowN; rw [if_neg hn, if_neg hm]; rfl
      rw [e] at HCAL ⊢
      have hk : k ≤ p.length := by omega
      clear e hlow hn
      go_enter Tryz.func61, Tryz.ntmps61
      go_wp2_with fail
      refine HCAL.out.mono ?_; rintro e w1 ⟨x, rfl, hr, hb⟩
      have HR := Lib.hid hr
      have HB := Lib.hid hb
      clear hr hb HCAL
      go_wp2_with fail
      go_ret
      exact ⟨x, rfl, HR.out, HB.out⟩
end Go.Proofs.YtgifbpjmblemhaaGreatDoor
namespace Go.Proofs.YtgifbpjmblemhaaGreatDoor
open Go.RowKit
set_option linter.unusedVariables false
set_option linter.unusedSimpArgs false
/-- by how much Shift shifts -/
def shN (n : Int) : Nat := if n < 0 then 0 else if 1000 < n then 1000 else n.toNat
theorem shift_tr (p : List UInt8) (k m : Nat) (hm : m = k + p.length) : tr (splice (List.replicate m 0) k p) = tr (shiftL p k) := tr_congr fun i => by
  rw [co_splice _ _ _ _ (by simp; omega), co_shiftL, zeros_co]
  unfold Gf.ps
  by_cases h : k ≤ i
  · rw [if_pos h]
    by_cases h2 : i < k + p.length
    · rw [if_pos ⟨h, h2⟩]
    · rw [if_neg (fun g => h2 g.2), co_ge (by omega)]
  · rw [if_neg h, if_neg (fun g => h g.1)]
end Go.Proofs.YtgifbpjmblemhaaGreatDoor
