/- Params, plain: parameters, what is wrong with them, their bytes. -/
import Derived.Test.YtomkkkbdipcjgaaDoorSb
namespace Go.Proofs.YtomkkkbdipcjgaaDoor
open Go.RowKit
set_option linter.unusedVariables false
set_option linter.unusedSimpArgs false
/-- parameters -/
structure Pm15 where
  sz : Int
  se : Int
  sp : Int
  pe : Int
  pa : Int
  re : Int
def in64 (n : Int) : Prop := -9223372036854775808 ≤ n ∧ n ≤ 9223372036854775807
structure Pm15.ok (p : Pm15) : Prop where
  sz : in64 p.sz
  se : in64 p.se
  sp : in64 p.sp
  pe : in64 p.pe
  pa : in64 p.pa
  re : in64 p.re
def pmL (p : Pm15) : List Value := [.int .i64 p.sz, .int .i64 p.se, .int .i64 p.sp, .int .i64 p.pe, .int .i64 p.pa, .int .i64 p.re]
def pmA (p : Pm15) : Array Value := #[.int .i64 p.sz, .int .i64 p.se, .int .i64 p.sp, .int .i64 p.pe, .int .i64 p.pa, .int .i64 p.re]
/-- how many blocks the file has -/
def Da.tot15 (n : Int) : Nat := totN (nbk n.toNat)
/-- the place of the first field that isn't right: 1 size .. 6 retries; 0 none -/
def Da.bad15 (p : Pm15) : Nat :=
  if p.sz < 0 ∨ 2000 < p.sz then 1
  else if p.se < 0 ∨ 8 < p.se then 2
  else if p.sp < 1 ∨ 12 < p.sp ∨ (Da.tot15 p.sz : Int) + p.se < p.sp then 3
  else if p.pe < 1 ∨ 10000 < p.pe then 4
  else if p.pa < 1 ∨ p.pe < p.pa then 5
  else if p.re < 0 ∨ 5 < p.re then 6
  else 0
/-- its error's number -/
def Da.err15 (k : Nat) : Nat := match k with
  | 0 => 0
  | 1 => 8
  | 2 => 18
  | _ => 1
/-- its name -/
def Da.fld15 (k : Nat) : List UInt8 := match k with
  | 0 => []
  | 1 => [115, 105, 122, 101]
  | 2 => [115, 101, 110, 116, 105, 110, 101, 108, 115]
  | 3 => [115, 112, 111, 116, 115]
  | 4 => [112, 101, 114, 105, 111, 100]
  | 5 => [112, 97, 116, 105, 101, 110, 99, 101]
  | _ => [114, 101, 116, 114, 105, 101, 115]
/-- its value -/
def Da.val15 (p : Pm15) (k : Nat) : Int := match k with
  | 0 => 0
  | 1 => p.sz
  | 2 => p.se
  | 3 => p.sp
  | 4 => p.pe
  | 5 => p.pa
  | _ => p.re
theorem Da.bad15_le (p : Pm15) : Da.bad15 p ≤ 6 := by
  unfold Da.bad15
  repeat (first | omega | split)
theorem Da.err15_zero {k : Nat} (h : k ≤ 6) : Da.err15 k = 0 ↔ k = 0 := by
  match k, h with
  | 0, _ | 1, _ | 2, _ | 3, _ | 4, _ | 5, _ | 6, _ => simp [Da.err15]
/-- right ones lie in their bounds -/
structure Da.Right15 (p : Pm15) : Prop where
  s0 : 0 ≤ p.sz
  s1 : p.sz ≤ 2000
  e0 : 0 ≤ p.se
  e1 : p.se ≤ 8
  t0 : 1 ≤ p.sp
  t1 : p.sp ≤ 12
  t2 : p.sp ≤ (Da.tot15 p.sz : Int) + p.se
  p0 : 1 ≤ p.pe
  p1 : p.pe ≤ 10000
  a0 : 1 ≤ p.pa
  a1 : p.pa ≤ p.pe
  r0 : 0 ≤ p.re
  r1 : p.re ≤ 5
theorem Da.right15 {p : Pm15} (h : Da.bad15 p = 0) : Da.Right15 p := by
  unfold Da.bad15 at h
  split at h
  · cases h
  split at h
  · cases h
  split at h
  · cases h
  split at h
  · cases h
  split at h
  · cases h
  split at h
  · cases h
  constructor <;> omega
/-- the bytes -/
def Da.byt15 (p : Pm15) : List UInt8 := [UInt8.ofNat (p.sz.toNat / 256), UInt8.ofNat (p.sz.toNat % 256), UInt8.ofNat p.se.toNat, UInt8.ofNat p.sp.toNat, UInt8.ofNat (p.pe.toNat / 256), UInt8.ofNat (p.pe.toNat % 256), UInt8.ofNat (p.pa.toNat / 256), UInt8.ofNat (p.pa.toNat % 256), UInt8.ofNat p.re.toNat]
/-- what nine bytes stand for -/
def Da.prs15 (b : List UInt8) : Pm15 := ⟨((b.getD 0 0).toNat * 256 + (b.getD 1 0).toNat : Nat), ((b.getD 2 0).toNat : Nat), ((b.getD 3 0).toNat : Nat), ((b.getD 4 0).toNat * 256 + (b.getD 5 0).toNat : Nat), ((b.getD 6 0).toNat * 256 + (b.getD 7 0).toNat : Nat), ((b.getD 8 0).toNat : Nat)⟩
theorem u8_nat (n : Nat) (h : n < 256) : (UInt8.ofNat n).toNat = n := by rw [UInt8.toNat_ofNat', Nat.mod_eq_of_lt h]
theorem Da.prs_byt15 {p : Pm15} (h : Da.Right15 p) : Da.prs15 (Da.byt15 p) = p := by
  obtain ⟨h1, h2, h3, h4, h5, h6, h7, h8, h9, h10, h11, h12, h13⟩ := h
  obtain ⟨sz, se, sp, pe, pa, re⟩ := p
  dsimp only at *
  unfold Da.prs15 Da.byt15
  simp only [List.getD_cons_zero, List.getD_cons_succ]
  rw [u8_nat _ (by omega), u8_nat _ (by omega), u8_nat _ (by omega), u8_nat _ (by omega), u8_nat _ (by omega), u8_nat _ (by omega), u8_nat _ (by omega), u8_nat _ (by omega), u8_nat _ (by omega)]
  congr 1 <;> omega
end Go.Proofs.YtomkkkbdipcjgaaDoor
