/- The walk of FieldLists. -/
import Derived.Test.YtegipidipkikgaaBytes
import Derived.Test.YtegipidipkikgaaSum
import Derived.Test.YtegipidipkikgaaRfMul
import Derived.Test.YtegipidipkikgaaFm
namespace Go.Proofs.Ytegipidipkikgaa
open Go.RowKit
set_option linter.unusedVariables false
namespace Gf
theorem dot_min (a b : List UInt8) (k : Nat) (hk : k < b.length) : dot a b (min (k + 1) b.length) = dot a b (min k b.length) ^^^ mul (a.getD k 0).toNat (b.getD k 0).toNat := by
  rw [show min (k + 1) b.length = k + 1 by omega, show min k b.length = k by omega, dot]
theorem dot_min' (a b : List UInt8) (k : Nat) (hk : ¬ k < b.length) : dot a b (min (k + 1) b.length) = dot a b (min k b.length) := by
  rw [show min (k + 1) b.length = b.length by omega, show min k b.length = b.length by omega]
end Gf
def ListAt (a b : List UInt8) (s d i : Value) : Prop := ∃ k : Nat, k ≤ a.length ∧ i = .int .i64 k ∧ s = .int .u8 (Gf.sum a k : Nat) ∧ d = .int .u8 (Gf.dot a b (min k b.length) : Nat)
theorem lists_long (a b : List UInt8) (o p : Option Addr) (c d : Nat) (w : World) (ha : RowIs w o (bytesV a) c) (hb : RowIs w p (bytesV b) d) (hl : 600 < a.length ∨ 600 < b.length) :
    Calls Try.prog 3 #[.slice o a.length c, .slice p b.length d] w fun e w' => e = .returned (.bool true) ∧ Below w.heap.size w w' := by
  by_cases h1 : 600 < a.length
  · clear hl
    go_enter Try.func3, Try.ntmps3
    go_wp2_with fail
    refine (alive_any _).mono ?_; rintro e w1 ⟨rfl, hg, hs⟩
    have HG := Lib.hid hg
    clear hg
    go_wp2_with fail
    go_ret
    exact ⟨rfl, HG.out⟩
  · have h2 : 600 < b.length := by omega
    have hd1 : decide (600 < a.length) = false := by simpa using h1
    clear hl
    go_enter Try.func3, Try.ntmps3
    go_wp2_with fail
    refine (alive_any _).mono ?_; rintro e w1 ⟨rfl, hg, hs⟩
    have HG := Lib.hid hg
    clear hg
    go_wp2_with fail
    go_ret
    exact ⟨rfl, HG.out⟩
set_option maxRecDepth 100000 in
set_option maxHeartbeats 2000000 in
theorem lists_short (a b : List UInt8) (o p : Option Addr) (c d : Nat) (w : World) (ha : RowIs w o (bytesV a) c) (hb : RowIs w p (bytesV b) d) (hl1 : a.length ≤ 600) (hl2 : b.length ≤ 600) :
    Calls Try.prog 3 #[.slice o a.length c, .slice p b.length d] w fun e w' => e = .returned (.bool true) ∧ Below w.heap.size w w' := by
  have HA := Lib.hid ha
  have HB := Lib.hid hb
  clear ha hb
  go_enter Try.func3, Try.ntmps3
  go_wp2_with fail
  refine (alive_any _).mono ?_; rintro e w1 ⟨rfl, hg, hs⟩
  have HG := Lib.hid hg
  have HA1 := Lib.hid (HA.out.later hg)
  have HB1 := Lib.hid (HB.out.later hg)
  clear hg
  go_wp2_with fail
  refine (bytes_any a o c _ HA1.out (by omega)).mono ?_; rintro e w2 ⟨B1, rfl, hg2, hB1, hM⟩
  have HG2 := Lib.hid (Kit.step HG.out hg2)
  have HA2 := Lib.hid (HA1.out.later hg2)
  have HB2 := Lib.hid (HB1.out.later hg2)
  have HM2 := Lib.hid hM
  clear hg2 hM hB1
  go_wp2_with fail
  refine (bytes_any b p d _ HB2.out (by omega)).mono ?_; rintro e w3 ⟨B2, rfl, hg3, hB2, hM⟩
  have HG3 := Lib.hid (Kit.step HG2.out hg3)
  have HA3 := Lib.hid (HA2.out.later hg3)
  have HB3 := Lib.hid (HB2.out.later hg3)
  have HM3 := Lib.hid (HM2.out.later hg3)
  have HN3 := Lib.hid hM
  clear hg3 hM hB2
  go_wp2_with fail
  go_loop [7, 8, 27] (fun s d i => ListAt a b s d i) (fun _ _ i => a.length - (intOf i).toNat)
  case atStart => exact ⟨0, Nat.zero_le _, rfl, rfl, by rw [Nat.zero_min]; rfl⟩
  case round =>
    obtain ⟨k, hk, rfl, rfl, rfl⟩ := hrel
    by_cases hlt : k < a.length
    · obtain ⟨b1, off1, rfl, hb1, hcell1⟩ := HA3.out.cells (by simp; omega)
      have hc1 := hcell1 k _ (bytesV_get a k hlt)
      have hx := UInt8.toNat_lt (a.getD k 0)
      have hs := Gf.sum_lt a k
      have hx1 : bits .xor .u8 (Gf.sum a k : Nat) ((a.getD k 0).toNat : Int) = ((Gf.sum a k ^^^ (a.getD k 0).toNat : Nat) : Int) := u8_xor_nat _ _ hs hx
      by_cases hlb : k < b.length
      · obtain ⟨b2, off2, rfl, hb2, hcell2⟩ := HB3.out.cells (by simp; omega)
        have hc2 := hcell2 k _ (bytesV_get b k hlb)
        have hy := UInt8.toNat_lt (b.getD k 0)
        have hdl := Gf.dot_lt a b (min k b.length)
        have hml := Gf.mul_lt (a.getD k 0).toNat (b.getD k 0).toNat hx
        have hx2 : bits .xor .u8 (Gf.dot a b (min k b.length) : Nat) (Gf.mul (a.getD k 0).toNat (b.getD k 0).toNat : Nat) = ((Gf.dot a b (min k b.length) ^^^ Gf.mul (a.getD k 0).toNat (b.getD k 0).toNat : Nat) : Int) := u8_xor_nat _ _ hdl hml
        rw [← Gf.dot_min a b k hlb] at hx2
        generalize hu : (a.getD k 0).toNat = x at *
        generalize hv : (b.getD k 0).toNat = y at *
        have HX1 := Lib.hid hx1
        have HX2 := Lib.hid hx2
        have HU := Lib.hid hu
        clear hcell1 hcell2 hx1 hx2 hu hv hb1 hb2
        go_wp2_with (go_at_call 8; refine (rmul_nat x y hx hy _).mono ?_; rintro e w' ⟨rfl, rfl⟩)
        go_round
        case rel => exact ⟨k + 1, by omega, by go_num, by rw [HX1.out, Gf.sum, HU.out], by rw [HX2.out]⟩
        case measure => simp [intOf]; omega
      · have hdm := Gf.dot_min' a b k hlb
        generalize hu : (a.getD k 0).toNat = x at *
        have HX1 := Lib.hid hx1
        have HU := Lib.hid hu
        have HDM := Lib.hid hdm
        clear hcell1 hx1 hu hdm hb1
        go_wp2
        go_round
        case rel => exact ⟨k + 1, by omega, by go_num, by rw [HX1.out, Gf.sum, HU.out], by rw [HDM.out]⟩
        case measure => simp [intOf]; omega
    · obtain rfl : k = a.length := by omega
      have HRA := Lib.hid (HM3.out.row (by unfold maxLen; omega))
      have HRB := Lib.hid (HN3.out.row (by unfold maxLen; omega))
      go_wp2_with fail
      refine (sum_any a _ _ _ HRA.out).mono ?_; rintro e w' ⟨rfl, rfl⟩
      go_wp2_with fail
      refine (dot_any a b _ _ _ _ _ HRA.out HRB.out).mono ?_; rintro e w4 ⟨rfl, n4, hw4⟩
      have hb4 : Below w3.heap.size w3 w4 := by rw [hw4]; exact Kit.dn' _ _
      have HG4 := Lib.hid (Kit.step HG3.out hb4)
      have HA4 := Lib.hid (HA3.out.later hb4)
      have HB4 := Lib.hid (HB3.out.later hb4)
      have HM4 := Lib.hid (HM3.out.later hb4)
      have HN4 := Lib.hid (HN3.out.later hb4)
      clear hw4 hb4
      go_wp2_with fail
      refine (kept_any a _ _ _ _ HM4.out HA4.out (by omega)).mono ?_; rintro e w5 ⟨rfl, hd5⟩
      have HG5 := Lib.hid (Kit.step HG4.out hd5.below)
      have HB5 := Lib.hid (HB4.out.later hd5.below)
      have HN5 := Lib.hid (HN4.out.later hd5.below)
      clear hd5
      go_wp2_with fail
      refine (kept_any b _ _ _ _ HN5.out HB5.out (by omega)).mono ?_; rintro e w6 ⟨rfl, hd6⟩
      have HG6 := Lib.hid (Kit.step HG5.out hd6.below)
      clear hd6
      go_wp2_with fail
      go_ret
      exact ⟨rfl, HG6.out⟩
theorem lists_walk (a b : List UInt8) (o p : Option Addr) (c d : Nat) (w : World) (ha : RowIs w o (bytesV a) c) (hb : RowIs w p (bytesV b) d) :
    Calls Try.prog 3 #[.slice o a.length c, .slice p b.length d] w fun e w' => e = .returned (.bool true) ∧ Below w.heap.size w w' := by
  by_cases hl : 600 < a.length ∨ 600 < b.length
  · exact lists_long a b o p c d w ha hb hl
  · exact lists_short a b o p c d w ha hb (by omega) (by omega)
end Go.Proofs.Ytegipidipkikgaa
