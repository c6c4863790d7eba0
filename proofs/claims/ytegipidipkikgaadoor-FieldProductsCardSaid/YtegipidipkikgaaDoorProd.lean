/- The walk of FieldProducts. -/
import Derived.Test.YtegipidipkikgaaDoorRfPow
import Derived.Test.YtegipidipkikgaaDoorTab
import Derived.Test.YtegipidipkikgaaDoorErr
namespace Go.Proofs.YtegipidipkikgaaDoor
open Go.RowKit
set_option linter.unusedVariables false
set_option maxRecDepth 100000 in
set_option maxHeartbeats 2000000 in
theorem products_walk (a b : Nat) (ha : a < 256) (hb : b < 256) (E : Nat → Addr) (w : World) (hE : Er.Errs w E) :
    Calls Tryd.prog 3 #[.int .u8 (a : Int), .int .u8 (b : Int)] w fun e w' => e = .returned (.bool true) ∧ Below w.heap.size w w' := by
  have hadd : ∀ w, Calls Tryd.prog 11 #[.int .u8 (a : Int), .int .u8 (b : Int)] w fun e w' => e = .returned (.int .u8 (bits .xor .u8 (a : Int) (b : Int))) ∧ w = w' := by
    intro w; rw [u8_xor_nat a b ha hb]; exact add_any a b ha hb w
  have HA := Lib.hid hadd
  have HE := Lib.hid hE
  have hinv := Gf.inv_lt b
  clear hadd hE
  go_enter Tryd.func3, Tryd.ntmps3
  go_wp2_with fail
  refine (alive_any _).mono ?_; rintro e w1 ⟨rfl, hg1, hs1⟩
  have HE1 := Lib.hid (HE.out.later hg1)
  have HG1 := Lib.hid hg1
  clear hg1
  go_wp2_with fail
  refine (make_any _).mono ?_; rintro e w2 ⟨n, C, hC, rfl, hw2⟩
  have HT2 : Hid (TabAt w2 w1.heap.size C) := Lib.hid (by rw [hw2]; exact TabAt.made hC)
  have HB2 : Hid (Below w1.heap.size w1 w2) := Lib.hid (by rw [hw2]; exact made_below)
  have HE2 := Lib.hid (HE1.out.later HB2.out)
  have HG2 := Lib.hid (Kit.step HG1.out HB2.out)
  clear hw2 hC
  go_wp2_with fail
  refine (rmul_nat a b ha hb _).mono ?_; rintro e w' ⟨rfl, rfl⟩
  go_wp2_with fail
  refine (mul_nat a b ha hb _).mono ?_; rintro e w' ⟨rfl, rfl⟩
  go_wp2_with fail
  refine (tmul_any a b ha hb _ C _ HT2.out).mono ?_; rintro e w3 ⟨rfl, n3, hw3⟩
  have HB3 : Hid (Below w2.heap.size w2 w3) := Lib.hid (by rw [hw3]; exact Kit.dn' _ _)
  have HT3 := Lib.hid (HT2.out.later HB3.out)
  have HE3 := Lib.hid (HE2.out.later HB3.out)
  have HG3 := Lib.hid (Kit.step HG2.out HB3.out)
  clear hw3
  go_wp2_with fail
  refine (HA.out _).mono ?_; rintro e w' ⟨rfl, rfl⟩
  go_wp2_with fail
  by_cases h0 : b = 0
  · have ht : ((b : Int) == 0) = true := by simpa using h0
    have H0 := Lib.hid h0
    clear h0
    refine (inv_zero b H0.out _ _ HE3.out.c19).mono ?_; rintro e w4 ⟨rfl, n4, hw4⟩
    have HB4 : Hid (Below w3.heap.size w3 w4) := Lib.hid (by rw [hw4]; exact Kit.dn' _ _)
    have HT4 := Lib.hid (HT3.out.later HB4.out)
    have HE4 := Lib.hid (HE3.out.later HB4.out)
    have HG4 := Lib.hid (Kit.step HG3.out HB4.out)
    clear hw4
    go_wp2_with fail
    refine (div_zero a b H0.out _ _ _ HE4.out.c19).mono ?_; rintro e w5 ⟨rfl, n5, hw5⟩
    have HB5 : Hid (Below w4.heap.size w4 w5) := Lib.hid (by rw [hw5]; exact Kit.dn' _ _)
    have HT5 := Lib.hid (HT4.out.later HB5.out)
    have HE5 := Lib.hid (HE4.out.later HB5.out)
    have HG5 := Lib.hid (Kit.step HG4.out HB5.out)
    clear hw5
    go_wp2_with fail
    refine (Er.num_of E 19 (by decide) _ HE5.out).mono ?_; rintro e w6 ⟨rfl, hb6⟩
    have HT6 := Lib.hid (HT5.out.later hb6)
    have HE6 := Lib.hid (HE5.out.later hb6)
    have HG6 := Lib.hid (Kit.step HG5.out hb6)
    clear hb6
    go_wp2_with fail
    refine (Er.num_of E 19 (by decide) _ HE6.out).mono ?_; rintro e w7 ⟨rfl, hb7⟩
    have HT7 := Lib.hid (HT6.out.later hb7)
    have HG7 := Lib.hid (Kit.step HG6.out hb7)
    clear hb7
    go_wp2_with fail
    refine (tdiv_zero a b (Or.inr H0.out) _ _).mono ?_; rintro e w8 ⟨rfl, n8, rfl⟩
    go_wp2_with fail
    go_ret
    exact ⟨rfl, Kit.dn HG7.out _⟩
  · have ht : ((b : Int) == 0) = false := by simpa using h0
    have H0 := Lib.hid h0
    clear h0
    refine (inv_pos b H0.out hb _).mono ?_; rintro e w' ⟨rfl, rfl⟩
    go_wp2_with fail
    refine (div_any a b ha H0.out hb _).mono ?_; rintro e w' ⟨rfl, rfl⟩
    go_wp2_with fail
    refine (rinv_nat b hb _).mono ?_; rintro e w' ⟨rfl, rfl⟩
    go_wp2_with fail
    refine (rmul_nat a _ ha hinv _).mono ?_; rintro e w' ⟨rfl, rfl⟩
    go_wp2_with fail
    refine (rinv_nat b hb _).mono ?_; rintro e w' ⟨rfl, rfl⟩
    go_wp2_with fail
    refine (tdiv_any a b ha H0.out hb _ C _ HT3.out).mono ?_; rintro e w8 ⟨rfl, n8, rfl⟩
    go_wp2_with fail
    go_ret
    exact ⟨rfl, Kit.dn HG3.out _⟩
end Go.Proofs.YtegipidipkikgaaDoor
