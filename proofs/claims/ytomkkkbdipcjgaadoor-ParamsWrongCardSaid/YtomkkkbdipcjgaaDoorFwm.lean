/- Contracts of the functions of package field that compute with numbers alone. The document's own product (package baileeref01) is the field's. Contracts of field.turn, Pow and Exp. The table that field.Make makes. A table in memory, and its products. Contract of a table's Div. Contracts of field.Inv and field.Div. Contracts of a table's other methods, and of field.Div. -/
import Derived.Test.YtomkkkbdipcjgaaDoorRows
import Derived.Test.YtomkkkbdipcjgaaDoorGf
import Derived.WalkKit
import Derived.ProofKit
import Derived.OpenShut
import Derived.Laws.BitsAllLaws
import Derived.Lib.Hide
import Derived.RegionTactic
import Derived.Outline
import Derived.Deep.QuietTactic
import Derived.BigQuiet
import Derived.ChangeAlike
namespace Go.Proofs.YtomkkkbdipcjgaaDoor
open Go.RowKit
set_option linter.unusedVariables false
theorem ret_int {k : IntKind} {a b : Int} (h : a = b) : Ending.returned (.int k a) = .returned (.int k b) := by rw [h]

namespace Gf
theorem and_128 (a : Nat) (ha : a < 256) : a &&& 128 = if a < 128 then 0 else 128 := by
  have h : (List.range 256).all (fun a => a &&& 128 == if a < 128 then 0 else 128) = true := by decide +kernel
  simpa using all_of h a ha
theorem and_1 (a : Nat) : a &&& 1 = a % 2 := Nat.and_two_pow_sub_one_eq_mod a 1
end Gf

def MulAt (a b : Nat) (x y p : Value) : Prop :=
  ∃ k x' y' p' : Nat, x' < 256 ∧ y' < 256 ∧ p' < 256 ∧ y' < 2 ^ k ∧ Gf.mul a b = p' ^^^ Gf.mulN k x' y' ∧ x = .int .u8 x' ∧ y = .int .u8 y' ∧ p = .int .u8 p'
end Go.Proofs.YtomkkkbdipcjgaaDoor
namespace Go.Proofs.YtomkkkbdipcjgaaDoor
open Go.RowKit
set_option linter.unusedVariables false
namespace Gf
/-- one bit's part of a sum -/
def part (b i x : Nat) : Nat := if b.testBit i then x else 0
/-- the product of two polynomials, after n bits -/
def cl (a b : Nat) : Nat → Nat
  | 0 => 0
  | n + 1 => cl a b n ^^^ part b n (a * 2 ^ n)
/-- the rest, from bit 7 + n down -/
def rd : Nat → Nat → Nat
  | 0, p => p
  | n + 1, p => rd n (p ^^^ part p (8 + n) (285 * 2 ^ n))
theorem part_xor (p q i x : Nat) : part (p ^^^ q) i x = part p i x ^^^ part q i x := by
  unfold part
  rw [Nat.testBit_xor]
  cases p.testBit i <;> cases q.testBit i <;> simp
theorem rd_xor (n p q : Nat) : rd n (p ^^^ q) = rd n p ^^^ rd n q := by
  induction n generalizing p q with
  | zero => rfl
  | succ n ih =>
    unfold rd
    rw [part_xor, ← ih]
    congr 1
    ac_rfl
theorem rd_zero (n : Nat) : rd n 0 = 0 := by
  induction n with
  | zero => rfl
  | succ n ih => unfold rd; simp [part, ih]
theorem rd_part (n b i x : Nat) : rd n (part b i x) = part b i (rd n x) := by
  unfold part
  split
  · rfl
  · exact rd_zero n
theorem dbls_succ (n a : Nat) : dbls n (dbl a) = dbls (n + 1) a := by
  induction n with
  | zero => rfl
  | succ n ih => rw [dbls, ih]; rfl
theorem mulN_succ (n a b : Nat) : mulN (n + 1) a b = mulN n a b ^^^ part b n (dbls n a) := by
  induction n generalizing a b with
  | zero =>
    simp only [mulN, part, dbls, Nat.testBit_zero, Nat.xor_zero, Nat.zero_xor, decide_eq_true_eq]
  | succ n ih =>
    rw [mulN, ih, mulN, dbls_succ, ← Nat.xor_assoc]
    unfold part
    rw [Nat.testBit_succ]
theorem rd_dbls (a n : Nat) (ha : a < 256) (hn : n < 8) : rd 7 (a * 2 ^ n) = dbls n a := by
  have h : (List.range 8).all (fun n => (List.range 256).all fun a => rd 7 (a * 2 ^ n) == dbls n a) = true := by decide +kernel
  simpa using all_of (all_of h n hn) a ha
theorem rd_cl (a b n : Nat) (ha : a < 256) (hn : n ≤ 8) : rd 7 (cl a b n) = mulN n a b := by
  induction n with
  | zero => exact rd_zero 7
  | succ n ih => rw [cl, rd_xor, rd_part, rd_dbls a n ha (by omega), ih (by omega), mulN_succ]
theorem cl_rd (a b : Nat) (ha : a < 256) : rd 7 (cl a b 8) = mul a b := rd_cl a b 8 ha (Nat.le_refl _)
theorem part_lt (b i x m : Nat) (h : x < 2 ^ m) : part b i x < 2 ^ m := by
  unfold part
  split
  · exact h
  · exact Nat.two_pow_pos m
theorem shift_lt (a n : Nat) (ha : a < 512) (hn : n < 8) : a * 2 ^ n < 2 ^ 16 := by
  have h1 : 2 ^ n ≤ 2 ^ 7 := Nat.pow_le_pow_right (by decide) (by omega)
  have h2 : a * 2 ^ n ≤ 511 * 2 ^ 7 := Nat.mul_le_mul (by omega) h1
  omega
theorem cl_lt (a b n : Nat) (ha : a < 256) (hn : n ≤ 8) : cl a b n < 2 ^ 16 := by
  induction n with
  | zero => exact Nat.two_pow_pos 16
  | succ n ih => exact Nat.xor_lt_two_pow (ih (by omega)) (part_lt _ _ _ _ (shift_lt a n (by omega) (by omega)))
theorem bit_test (b i : Nat) : (((b : Int) / 2 ^ i).tmod 2 == 1) = b.testBit i := by
  have h : ((b : Int) / 2 ^ i).tmod 2 = ((b / 2 ^ i % 2 : Nat) : Int) := by
    rw [show ((b : Int) / 2 ^ i) = ((b / 2 ^ i : Nat) : Int) by simp]
    rfl
  rw [h, Nat.testBit_eq_decide_div_mod_eq, Bool.eq_iff_iff]
  simp only [beq_iff_eq, decide_eq_true_eq]
  omega
theorem shl_int (a i : Nat) : (a : Int) * 2 ^ i = ((a * 2 ^ i : Nat) : Int) := by simp
theorem xor64 (p q : Nat) (hp : p < 2 ^ 16) (hq : q < 2 ^ 16) : bits .xor .i64 (p : Int) (q : Int) = ((p ^^^ q : Nat) : Int) := by
  have hx : p ^^^ q < 2 ^ 16 := Nat.xor_lt_two_pow hp hq
  have hp' : p % 2 ^ IntKind.i64.bits = p := Nat.mod_eq_of_lt (by show p < 2 ^ 64; omega)
  have hq' : q % 2 ^ IntKind.i64.bits = q := Nat.mod_eq_of_lt (by show q < 2 ^ 64; omega)
  simp only [bits, BitVec.ofInt_natCast, BitVec.toNat_xor, BitVec.toNat_ofNat, hp', hq']
  rw [IntKind.wrap_i64]
  omega
end Gf
def ClAt (a b : Nat) (p i : Value) : Prop := ∃ i' : Nat, i' ≤ 8 ∧ p = .int .i64 (Gf.cl a b i' : Nat) ∧ i = .int .i64 i'
def RdAt (a b : Nat) (p i : Value) : Prop := ∃ p' n : Nat, n ≤ 7 ∧ p' < 65536 ∧ Gf.rd n p' = Gf.mul a b ∧ p = .int .i64 p' ∧ i = .int .i64 ((n : Int) + 7)
end Go.Proofs.YtomkkkbdipcjgaaDoor
namespace Go.Proofs.YtomkkkbdipcjgaaDoor
open Go.RowKit
set_option linter.unusedVariables false
namespace Gf
/-- Go's answer to a power: any number, any exponent -/
def powI (a : Nat) (n : Int) : Nat := if a = 0 then (if n = 0 then 1 else 0) else pw a (n % 255).toNat
theorem powI_lt (a : Nat) (n : Int) : powI a n < 256 := by
  unfold powI
  split
  · split <;> omega
  · exact pw_lt _ _
end Gf

def PowAt (a L : Nat) (x p l : Value) : Prop :=
  ∃ x' p' l' : Nat, x' < 256 ∧ p' < 256 ∧ l' < 255 ∧ Gf.mul p' (Gf.pw x' l') = Gf.pw a L ∧ x = .int .u8 x' ∧ p = .int .u8 p' ∧ l = .int .i64 l'
end Go.Proofs.YtomkkkbdipcjgaaDoor
namespace Go.Proofs.YtomkkkbdipcjgaaDoor
open Go.RowKit
set_option linter.unusedVariables false
namespace Gf
/-- a table after k rounds -/
structure TabK (k : Nat) (C : Array Value) : Prop where
  size : C.size = 766
  low : ∀ i, i < k → C[i]? = some (.int .u8 (ex i : Nat))
  high : ∀ i, i < k → C[i + 255]? = some (.int .u8 (ex i : Nat))
  zero : C[510]? = some (.int .i64 (-1))
  log : ∀ i, i < k → C[510 + ex i]? = some (.int .i64 i)
theorem TabK.step {k : Nat} {C : Array Value} (h : TabK k C) (hk : k < 255) :
    TabK (k + 1) (((C.setIfInBounds k (.int .u8 (ex k : Nat))).setIfInBounds (k + 255) (.int .u8 (ex k : Nat))).setIfInBounds (510 + ex k) (.int .i64 k)) := by
  have hs := h.size
  have he := ex_lt k
  have h0 := ex_ne k
  refine ⟨by simp [hs], ?_, ?_, ?_, ?_⟩
  · intro i hi
    simp only [Array.getElem?_setIfInBounds, Array.size_setIfInBounds]
    rw [if_neg (by omega), if_neg (by omega)]
    by_cases hik : k = i
    · subst hik; rw [if_pos rfl, if_pos (by omega)]
    · rw [if_neg hik]; exact h.low i (by omega)
  · intro i hi
    simp only [Array.getElem?_setIfInBounds, Array.size_setIfInBounds]
    rw [if_neg (by omega)]
    by_cases hik : k = i
    · subst hik; rw [if_pos rfl, if_pos (by omega)]
    · rw [if_neg (by omega), if_neg (by omega)]; exact h.high i (by omega)
  · simp only [Array.getElem?_setIfInBounds, Array.size_setIfInBounds]
    rw [if_neg (by omega), if_neg (by omega), if_neg (by omega)]; exact h.zero
  · intro i hi
    simp only [Array.getElem?_setIfInBounds, Array.size_setIfInBounds]
    by_cases hik : k = i
    · subst hik; rw [if_pos rfl, if_pos (by omega)]
    · have hne : ex k ≠ ex i := by
        intro hx
        have := (ex_inj k i).1 hx
        rw [Nat.mod_eq_of_lt hk, Nat.mod_eq_of_lt (by omega)] at this
        exact hik this
      rw [if_neg (by omega), if_neg (by omega), if_neg (by omega)]; exact h.log i (by omega)
/-- the whole table -/
structure Tab (C : Array Value) : Prop where
  size : C.size = 766
  exp : ∀ i, i < 510 → C[i]? = some (.int .u8 (ex i : Nat))
  zero : C[510]? = some (.int .i64 (-1))
  log : ∀ i, i < 255 → C[510 + ex i]? = some (.int .i64 i)
theorem TabK.tab {C : Array Value} (h : TabK 255 C) : Tab C := by
  refine ⟨h.size, ?_, h.zero, h.log⟩
  intro i hi
  by_cases hlt : i < 255
  · exact h.low i hlt
  · have := h.high (i - 255) (by omega)
    rw [show i - 255 + 255 = i by omega] at this
    rw [this, ← ex_add_255 (i - 255), show i - 255 + 255 = i by omega]
end Gf
def tz : Array Value := Array.replicate 510 (.int .u8 0) ++ Array.replicate 256 (.int .i64 0)
theorem set_made (w : World) (C : Array Value) (T : TypeId) (n i : Nat) (v : Value) :
    ((w.alloc (.cells C T)).drewN n).setCell ⟨w.heap.size, i, none⟩ v = (w.alloc (.cells (C.setIfInBounds i v) T)).drewN n := by
  have h : ∀ (x : World), (x.drewN n).setCell ⟨w.heap.size, i, none⟩ v = (x.setCell ⟨w.heap.size, i, none⟩ v).drewN n := fun x => rfl
  rw [h]
  congr 1
  go_simp
theorem below_dn {B : Nat} {a w : World} (h : Below B a w) (n : Nat) : Below B a (w.drewN n) := h.trans ⟨rfl, rfl, rfl, Nat.le_refl _, fun _ _ => rfl⟩
theorem made_below {w : World} {C : Array Value} {T : TypeId} {n : Nat} : Below w.heap.size w ((w.alloc (.cells C T)).drewN n) := by
  have h : ∀ n, Below w.heap.size w ((w.alloc (.cells C T)).drewN n) := by
    intro n
    induction n with
    | zero => exact (Below.refl _ _).alloc (Nat.le_refl _) _
    | succ n ih => exact ih.drew
  exact h n

end Go.Proofs.YtomkkkbdipcjgaaDoor
namespace Go.Proofs.YtomkkkbdipcjgaaDoor
open Go.RowKit
set_option linter.unusedVariables false
namespace Gf
theorem Tab.logAt {C : Array Value} (h : Tab C) (a : Nat) (h0 : a ≠ 0) (ha : a < 256) : C[510 + a]? = some (.int .i64 (lg a : Nat)) := by
  obtain ⟨h1, h2⟩ := ex_lg a h0 ha
  have := h.log (lg a) h2
  rw [h1] at this; exact this
theorem mul_lg (a b : Nat) (h0 : a ≠ 0) (ha : a < 256) (g0 : b ≠ 0) (hb : b < 256) : ex (lg a + lg b) = mul a b := by
  rw [← mul_ex_ex, (ex_lg a h0 ha).1, (ex_lg b g0 hb).1]
end Gf
end Go.Proofs.YtomkkkbdipcjgaaDoor
namespace Go.Proofs.YtomkkkbdipcjgaaDoor
open Go.RowKit
set_option linter.unusedVariables false
namespace Gf
theorem div_lg (a b : Nat) (h0 : a ≠ 0) (ha : a < 256) (g0 : b ≠ 0) (hb : b < 256) : ex (lg a + 255 - lg b) = mul a (inv b) := by
  obtain ⟨h1, h2⟩ := ex_lg a h0 ha
  obtain ⟨h3, h4⟩ := ex_lg b g0 hb
  have e : inv b = ex (lg b * 254) := by
    unfold inv
    generalize lg b = n at *
    subst h3
    rw [pw_ex]
  rw [e]
  generalize lg b = m at *
  generalize lg a = n at *
  subst h1
  rw [mul_ex_ex, ex_inj]
  omega
end Gf
end Go.Proofs.YtomkkkbdipcjgaaDoor
namespace Go.Proofs.YtomkkkbdipcjgaaDoor
open Go.RowKit
set_option linter.unusedVariables false
end Go.Proofs.YtomkkkbdipcjgaaDoor
namespace Go.Proofs.YtomkkkbdipcjgaaDoor
open Go.RowKit
set_option linter.unusedVariables false
end Go.Proofs.YtomkkkbdipcjgaaDoor
