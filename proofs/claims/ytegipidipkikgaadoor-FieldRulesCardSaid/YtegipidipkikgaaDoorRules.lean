/- The walks of FieldRules: sums and products are those of a field. -/
import Derived.Test.YtegipidipkikgaaDoorInv
namespace Go.Proofs.YtegipidipkikgaaDoor
open Go.RowKit
set_option linter.unusedVariables false
structure RulesIn (a b c : Nat) : Prop where
  addBA : ∀ w, Calls Tryd.prog 11 #[.int .u8 (b : Int), .int .u8 (a : Int)] w fun e w' => e = .returned (.int .u8 (a ^^^ b : Nat)) ∧ w = w'
  addABC : ∀ w, Calls Tryd.prog 11 #[.int .u8 ((a ^^^ b : Nat) : Int), .int .u8 (c : Int)] w fun e w' => e = .returned (.int .u8 (a ^^^ (b ^^^ c) : Nat)) ∧ w = w'
  addAA : ∀ w, Calls Tryd.prog 11 #[.int .u8 (a : Int), .int .u8 (a : Int)] w fun e w' => e = .returned (.int .u8 0) ∧ w = w'
  mulBA : ∀ w, Calls Tryd.prog 9 #[.int .u8 (b : Int), .int .u8 (a : Int)] w fun e w' => e = .returned (.int .u8 (Gf.mul a b : Nat)) ∧ w = w'
  mulABC : ∀ w, Calls Tryd.prog 9 #[.int .u8 (Gf.mul a b : Nat), .int .u8 (c : Int)] w fun e w' => e = .returned (.int .u8 (Gf.mul a (Gf.mul b c) : Nat)) ∧ w = w'
  mulA1 : ∀ w, Calls Tryd.prog 9 #[.int .u8 (a : Int), .int .u8 1] w fun e w' => e = .returned (.int .u8 (a : Int)) ∧ w = w'
  mulAS : ∀ w, Calls Tryd.prog 9 #[.int .u8 (a : Int), .int .u8 ((b ^^^ c : Nat) : Int)] w fun e w' => e = .returned (.int .u8 (Gf.mul a b ^^^ Gf.mul a c : Nat)) ∧ w = w'
theorem rulesIn (a b c : Nat) (ha : a < 256) (hb : b < 256) (hc : c < 256) : RulesIn a b c where
  addBA w := by rw [Nat.xor_comm a b]; exact add_any b a hb ha w
  addABC w := by rw [← Nat.xor_assoc]; exact add_any _ c (Gf.xor_lt ha hb) hc w
  addAA w := by have h := add_any a a ha ha w; rw [Nat.xor_self] at h; exact h
  mulBA w := by rw [Gf.mul_comm a b ha hb]; exact mul_nat b a hb ha w
  mulABC w := by rw [← Gf.mul_assoc a b c ha hb hc]; exact mul_nat _ c (Gf.mul_lt a b ha) hc w
  mulA1 w := by have h := mul_nat a 1 ha (by decide) w; rw [Gf.mul_one_right a ha] at h; exact h
  mulAS w := by rw [← Gf.mul_xor_right a b c ha hb hc]; exact mul_nat a _ ha (Gf.xor_lt hb hc) w

set_option maxRecDepth 100000 in
set_option maxHeartbeats 2000000 in
theorem rules_walk (a b c : Nat) (ha : a < 256) (hb : b < 256) (hc : c < 256) (ad : Addr) (w : World) (hz : w.cell? ⟨0, 0, none⟩ = some (.iface 63 (.pointer (some ad)))) :
    Calls Tryd.prog 5 #[.int .u8 (a : Int), .int .u8 (b : Int), .int .u8 (c : Int)] w fun e w' => e = .returned (.bool true) ∧ Below w.heap.size w w' := by
  have HI := Lib.hid (rulesIn a b c ha hb hc)
  have HZ := Lib.hid hz
  have hgz : 0 < w.heap.size := by
    unfold World.cell? at hz
    cases hh : w.heap[0]? with
    | none => simp [hh] at hz
    | some o => exact (Array.getElem?_eq_some_iff.1 hh).1
  have hab := Gf.mul_lt a b ha
  have hac := Gf.mul_lt a c ha
  have hbc := Gf.mul_lt b c hb
  have hx := Gf.xor_lt hb hc
  clear hz
  go_enter Tryd.func5, Tryd.ntmps5
  go_wp2_with fail
  refine (alive_any _).mono ?_; rintro e w1 ⟨rfl, hg, hs⟩
  have hz1 : w1.cell? ⟨0, 0, none⟩ = some (.iface 63 (.pointer (some ad))) := by rw [hg.cell (p := ⟨0, 0, none⟩) hgz]; exact HZ.out
  have HZ1 := Lib.hid hz1
  have HG := Lib.hid hg
  clear hg hz1
  go_wp2_with fail
  refine (add_any a b ha hb _).mono ?_; rintro e w' ⟨rfl, rfl⟩
  go_wp2_with fail
  refine (HI.out.addBA _).mono ?_; rintro e w' ⟨rfl, rfl⟩
  go_wp2_with fail
  refine (add_any b c hb hc _).mono ?_; rintro e w' ⟨rfl, rfl⟩
  go_wp2_with fail
  refine (add_any a _ ha hx _).mono ?_; rintro e w' ⟨rfl, rfl⟩
  go_wp2_with fail
  refine (add_any a b ha hb _).mono ?_; rintro e w' ⟨rfl, rfl⟩
  go_wp2_with fail
  refine (HI.out.addABC _).mono ?_; rintro e w' ⟨rfl, rfl⟩
  go_wp2_with fail
  refine (HI.out.addAA _).mono ?_; rintro e w' ⟨rfl, rfl⟩
  go_wp2_with fail
  refine (mul_nat a b ha hb _).mono ?_; rintro e w' ⟨rfl, rfl⟩
  go_wp2_with fail
  refine (HI.out.mulBA _).mono ?_; rintro e w' ⟨rfl, rfl⟩
  go_wp2_with fail
  refine (mul_nat b c hb hc _).mono ?_; rintro e w' ⟨rfl, rfl⟩
  go_wp2_with fail
  refine (mul_nat a _ ha hbc _).mono ?_; rintro e w' ⟨rfl, rfl⟩
  go_wp2_with fail
  refine (mul_nat a b ha hb _).mono ?_; rintro e w' ⟨rfl, rfl⟩
  go_wp2_with fail
  refine (HI.out.mulABC _).mono ?_; rintro e w' ⟨rfl, rfl⟩
  go_wp2_with fail
  refine (HI.out.mulA1 _).mono ?_; rintro e w' ⟨rfl, rfl⟩
  go_wp2_with fail
  refine (add_any b c hb hc _).mono ?_; rintro e w' ⟨rfl, rfl⟩
  go_wp2_with fail
  refine (HI.out.mulAS _).mono ?_; rintro e w' ⟨rfl, rfl⟩
  go_wp2_with fail
  refine (mul_nat a b ha hb _).mono ?_; rintro e w' ⟨rfl, rfl⟩
  go_wp2_with fail
  refine (mul_nat a c ha hc _).mono ?_; rintro e w' ⟨rfl, rfl⟩
  go_wp2_with fail
  refine (add_any _ _ hab hac _).mono ?_; rintro e w' ⟨rfl, rfl⟩
  go_wp2_with fail
  by_cases h0 : a = 0
  · have m0 : ∀ w, Calls Tryd.prog 9 #[.int .u8 (a : Int), .int .u8 (b : Int)] w fun e w' => e = .returned (.int .u8 0) ∧ w = w' := by
      intro w; have h := mul_nat a b ha hb w; rw [h0, Gf.mul_zero_left] at h; rw [h0]; exact h
    have M0 := Lib.hid m0
    have ht : ((a : Int) == 0) = true := by simpa using h0
    have H0 := Lib.hid h0
    clear m0 h0
    refine (inv_zero a H0.out _ _ HZ1.out).mono ?_; rintro e w' ⟨rfl, nd, rfl⟩
    go_wp2_with fail
    refine (M0.out _).mono ?_; rintro e w' ⟨rfl, rfl⟩
    go_wp2_with fail
    go_ret
    exact ⟨rfl, below_dn HG.out _⟩
  · have ht : ((a : Int) == 0) = false := by simpa using h0
    have mi : ∀ w, Calls Tryd.prog 9 #[.int .u8 (a : Int), .int .u8 (Gf.inv a : Nat)] w fun e w' => e = .returned (.int .u8 1) ∧ w = w' := by
      intro w; have h := mul_nat a _ ha (Gf.inv_lt a) w; rw [Gf.mul_inv a h0 ha] at h; exact h
    have MI := Lib.hid mi
    have hq : ((Gf.mul a b : Int) == 0) = ((b : Int) == 0) := by
      have h := Gf.mul_eq_zero a b ha hb h0
      by_cases hb0 : b = 0
      · have h3 := h.2 hb0
        rw [h3, hb0]
      · have h3 : Gf.mul a b ≠ 0 := fun e => hb0 (h.1 e)
        have e1 : ((Gf.mul a b : Int) == 0) = false := by simpa using h3
        have e2 : ((b : Int) == 0) = false := by simpa using hb0
        rw [e1, e2]
    have H0 := Lib.hid h0
    clear mi h0
    refine (inv_pos a H0.out ha _).mono ?_; rintro e w' ⟨rfl, rfl⟩
    by_cases hb0 : b = 0
    · have e2 : ((b : Int) == 0) = true := by simpa using hb0
      have e1 : ((Gf.mul a b : Int) == 0) = true := by rw [hq, e2]
      clear hq hb0
      go_wp2_with fail
      refine (MI.out _).mono ?_; rintro e w' ⟨rfl, rfl⟩
      go_wp2_with fail
      refine (mul_nat a b ha hb _).mono ?_; rintro e w' ⟨rfl, rfl⟩
      go_wp2_with fail
      go_ret
      exact ⟨rfl, HG.out⟩
    · have e2 : ((b : Int) == 0) = false := by simpa using hb0
      have e1 : ((Gf.mul a b : Int) == 0) = false := by rw [hq, e2]
      clear hq hb0
      go_wp2_with fail
      refine (MI.out _).mono ?_; rintro e w' ⟨rfl, rfl⟩
      go_wp2_with fail
      refine (mul_nat a b ha hb _).mono ?_; rintro e w' ⟨rfl, rfl⟩
      go_wp2_with fail
      go_ret
      exact ⟨rfl, HG.out⟩
end Go.Proofs.YtegipidipkikgaaDoor
