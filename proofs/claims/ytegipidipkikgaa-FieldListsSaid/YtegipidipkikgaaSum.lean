/- Contracts of field.Sum and field.Dot. -/
import Derived.Test.YtegipidipkikgaaSl
import Derived.Test.YtegipidipkikgaaFw
import Derived.Deep.QuietTactic
import Derived.BigQuiet
import Derived.Outline
namespace Go.Proofs.Ytegipidipkikgaa
open Go.RowKit
set_option linter.unusedVariables false
namespace Gf
/-- the sum of all -/
def sum (z : List UInt8) : Nat → Nat
  | 0 => 0
  | k + 1 => sum z k ^^^ (z.getD k 0).toNat
theorem sum_lt (z : List UInt8) (k : Nat) : sum z k < 256 := by
  induction k with
  | zero => show 0 < 256; omega
  | succ k ih => exact xor_lt ih (UInt8.toNat_lt _)
/-- the sum of the products -/
def dot (a b : List UInt8) : Nat → Nat
  | 0 => 0
  | k + 1 => dot a b k ^^^ mul (a.getD k 0).toNat (b.getD k 0).toNat
theorem dot_lt (a b : List UInt8) (k : Nat) : dot a b k < 256 := by
  induction k with
  | zero => show 0 < 256; omega
  | succ k ih => exact xor_lt ih (mul_lt _ _ (UInt8.toNat_lt _))
end Gf
def SumAt (z : List UInt8) (s i : Value) : Prop := ∃ k : Nat, k ≤ z.length ∧ i = .int .i64 k ∧ s = .int .u8 (Gf.sum z k : Nat)
theorem sum_any (z : List UInt8) (o : Option Addr) (c : Nat) (w : World) (h : RowIs w o (bytesV z) c) :
    Calls Try.prog 9 #[.slice o z.length c] w fun e w' => e = .returned (.int .u8 (Gf.sum z z.length : Nat)) ∧ w = w' := by
  have hm := h.cap
  have hle := h.le
  simp only [bytesV_length] at hle
  unfold maxLen at hm
  have HR := Lib.hid h
  clear h
  go_enter Try.func9, Try.ntmps9
  go_wp2
  go_loop [3, 8] (fun s i => SumAt z s i) (fun _ i => z.length - (intOf i).toNat)
  case atStart => exact ⟨0, Nat.zero_le _, rfl, rfl⟩
  case round =>
    obtain ⟨k, hk, rfl, rfl⟩ := hrel
    by_cases hlt : k < z.length
    · obtain ⟨b, off, rfl, hb, hcell⟩ := HR.out.cells (by simp; omega)
      have hc := hcell k _ (bytesV_get z k hlt)
      have hx := UInt8.toNat_lt (z.getD k 0)
      have hs := Gf.sum_lt z k
      generalize hv : (z.getD k 0).toNat = x at *
      have HV := Lib.hid hv
      clear hcell hv hb
      go_wp2_with (go_at_call 13; refine (add_any _ x hs hx _).mono ?_; rintro e w' ⟨rfl, rfl⟩)
      go_round
      case rel => exact ⟨k + 1, by omega, by go_num, by rw [Gf.sum, HV.out]⟩
      case measure => simp [intOf]; omega
    · obtain rfl : k = z.length := by omega
      go_wp2
      go_ret
      exact ⟨rfl, rfl⟩
def DotAt (a b : List UInt8) (n : Nat) (w : World) (s i : Value) (wr : World) : Prop := ∃ k : Nat, k ≤ n ∧ i = .int .i64 k ∧ s = .int .u8 (Gf.dot a b k : Nat) ∧ Kit.Dn w wr
set_option maxHeartbeats 1000000 in
theorem dot_any (a b : List UInt8) (o p : Option Addr) (c d : Nat) (w : World) (h : RowIs w o (bytesV a) c) (g : RowIs w p (bytesV b) d) :
    Calls Try.prog 10 #[.slice o a.length c, .slice p b.length d] w fun e w' => e = .returned (.int .u8 (Gf.dot a b (min a.length b.length) : Nat)) ∧ ∃ n, w' = w.drewN n := by
  have hm := h.cap
  have hle := h.le
  have gm := g.cap
  have gle := g.le
  simp only [bytesV_length] at hle gle
  unfold maxLen at hm gm
  have HR := Lib.hid h
  have GR := Lib.hid g
  clear h g
  by_cases hab : b.length < a.length
  · have HMIN : Hid (min a.length b.length = b.length) := Lib.hid (by omega)
    go_enter Try.func10, Try.ntmps10
    go_wp2
    go_loopw [5, 12] (fun s i wr => DotAt a b b.length w s i wr) (fun _ i _ => b.length - (intOf i).toNat)
    case atStart => exact ⟨0, Nat.zero_le _, rfl, rfl, Kit.Dn.refl _⟩
    case round =>
      obtain ⟨k, hk, rfl, rfl, hd⟩ := hrel
      have HD := Lib.hid hd
      clear hd
      by_cases hlt : k < b.length
      · have hla : k < a.length := by omega
        have hlb : k < b.length := by omega
        obtain ⟨b1, off1, rfl, hb1, hcell1⟩ := (HR.out.later HD.out.below).cells (by simp; omega)
        obtain ⟨b2, off2, rfl, hb2, hcell2⟩ := (GR.out.later HD.out.below).cells (by simp; omega)
        have hc1 : wr.cell? ⟨b1, off1 + k, none⟩ = some _ := hcell1 k _ (bytesV_get a k hla)
        have hc2 : wr.cell? ⟨b2, off2 + k, none⟩ = some _ := hcell2 k _ (bytesV_get b k hlb)
        have hx := UInt8.toNat_lt (a.getD k 0)
        have hy := UInt8.toNat_lt (b.getD k 0)
        have hs := Gf.dot_lt a b k
        have hmu := Gf.mul_lt (a.getD k 0).toNat (b.getD k 0).toNat hx
        generalize hv : (a.getD k 0).toNat = x at *
        generalize hu : (b.getD k 0).toNat = y at *
        have HV := Lib.hid hv
        have HU := Lib.hid hu
        have mc : ∀ w, Calls Try.prog 14 #[.int .u8 (x : Int), .int .u8 (y : Int)] w fun e w' => e = .returned (.int .u8 (Gf.mul x y : Nat)) ∧ w' = w := fun w => (mul_nat x y hx hy w).mono fun _ _ ⟨h1, h2⟩ => ⟨h1, h2.symm⟩
        have ac : ∀ w, Calls Try.prog 13 #[.int .u8 (Gf.dot a b k : Nat), .int .u8 (Gf.mul x y : Nat)] w fun e w' => e = .returned (.int .u8 (Gf.dot a b k ^^^ Gf.mul x y : Nat)) ∧ w' = w := fun w => (add_any _ _ hs hmu w).mono fun _ _ ⟨h1, h2⟩ => ⟨h1, h2.symm⟩
        have MC := Lib.hid mc
        have AC := Lib.hid ac
        clear hcell1 hcell2 hv hu hb1 hb2 mc ac
        go_wp2
        go_quiet ((first | (go_at_call 14; exact Calls.quiet_of_same (MC.out _)) | (go_at_call 13; exact Calls.quiet_of_same (AC.out _))))
        go_wp2
        go_roundw
        case rel => exact ⟨k + 1, by omega, by go_num, by rw [Gf.dot, HV.out, HU.out], HD.out.add _⟩
        case measure => simp [intOf]; omega
      · obtain rfl : k = b.length := by omega
        go_wp2
        go_ret
        exact ⟨ret_int (by rw [HMIN.out]), HD.out⟩
  · have HMIN : Hid (min a.length b.length = a.length) := Lib.hid (by omega)
    go_enter Try.func10, Try.ntmps10
    go_wp2
    go_loopw [5, 12] (fun s i wr => DotAt a b a.length w s i wr) (fun _ i _ => a.length - (intOf i).toNat)
    case atStart => exact ⟨0, Nat.zero_le _, rfl, rfl, Kit.Dn.refl _⟩
    case round =>
      obtain ⟨k, hk, rfl, rfl, hd⟩ := hrel
      have HD := Lib.hid hd
      clear hd
      by_cases hlt : k < a.length
      · have hla : k < a.length := by omega
        have hlb : k < b.length := by omega
        obtain ⟨b1, off1, rfl, hb1, hcell1⟩ := (HR.out.later HD.out.below).cells (by simp; omega)
        obtain ⟨b2, off2, rfl, hb2, hcell2⟩ := (GR.out.later HD.out.below).cells (by simp; omega)
        have hc1 : wr.cell? ⟨b1, off1 + k, none⟩ = some _ := hcell1 k _ (bytesV_get a k hla)
        have hc2 : wr.cell? ⟨b2, off2 + k, none⟩ = some _ := hcell2 k _ (bytesV_get b k hlb)
        have hx := UInt8.toNat_lt (a.getD k 0)
        have hy := UInt8.toNat_lt (b.getD k 0)
        have hs := Gf.dot_lt a b k
        have hmu := Gf.mul_lt (a.getD k 0).toNat (b.getD k 0).toNat hx
        generalize hv : (a.getD k 0).toNat = x at *
        generalize hu : (b.getD k 0).toNat = y at *
        have HV := Lib.hid hv
        have HU := Lib.hid hu
        have mc : ∀ w, Calls Try.prog 14 #[.int .u8 (x : Int), .int .u8 (y : Int)] w fun e w' => e = .returned (.int .u8 (Gf.mul x y : Nat)) ∧ w' = w := fun w => (mul_nat x y hx hy w).mono fun _ _ ⟨h1, h2⟩ => ⟨h1, h2.symm⟩
        have ac : ∀ w, Calls Try.prog 13 #[.int .u8 (Gf.dot a b k : Nat), .int .u8 (Gf.mul x y : Nat)] w fun e w' => e = .returned (.int .u8 (Gf.dot a b k ^^^ Gf.mul x y : Nat)) ∧ w' = w := fun w => (add_any _ _ hs hmu w).mono fun _ _ ⟨h1, h2⟩ => ⟨h1, h2.symm⟩
        have MC := Lib.hid mc
        have AC := Lib.hid ac
        clear hcell1 hcell2 hv hu hb1 hb2 mc ac
        go_wp2
        go_quiet ((first | (go_at_call 14; exact Calls.quiet_of_same (MC.out _)) | (go_at_call 13; exact Calls.quiet_of_same (AC.out _))))
        go_wp2
        go_roundw
        case rel => exact ⟨k + 1, by omega, by go_num, by rw [Gf.dot, HV.out, HU.out], HD.out.add _⟩
        case measure => simp [intOf]; omega
      · obtain rfl : k = a.length := by omega
        go_wp2
        go_ret
        exact ⟨ret_int (by rw [HMIN.out]), HD.out⟩
end Go.Proofs.Ytegipidipkikgaa
