/- Macs, plain; the code's key: Make, with. Macs: the code's Of (a key's, and of bytes). Macs: Tag, Same, Right. -/
import Derived.Test.YtomkkkbdipcjgaaDoorHk
import Derived.Laws.CopyOwn
import Derived.Laws.BitsAllLaws
import Derived.Test.YtomkkkbdipcjgaaDoorFwm
namespace Go.Proofs.YtomkkkbdipcjgaaDoor.Da
/-- a key, filled up -/
def fil (k : List UInt8) : List UInt8 := (if 64 < k.length then sha k else k) ++ List.replicate (64 - (if 64 < k.length then sha k else k).length) 0
def xk (k : List UInt8) (x : UInt8) : List UInt8 := k.map (· ^^^ x)
def hmac (k m : List UInt8) : List UInt8 := sha (xk (fil k) 92 ++ sha (xk (fil k) 54 ++ m))
def xi (k : List UInt8) (x : UInt8) (i : Nat) : List UInt8 := xk (k.take i) x ++ k.drop i
theorem short_le (k : List UInt8) : (if 64 < k.length then sha k else k).length ≤ 64 := by
  by_cases h : 64 < k.length
  · rw [if_pos h, sha_length]; omega
  · rw [if_neg h]; omega
theorem fil_length (k : List UInt8) : (fil k).length = 64 := by
  have := short_le k
  unfold fil
  rw [List.length_append, List.length_replicate]; omega
theorem xk_length (k : List UInt8) (x : UInt8) : (xk k x).length = k.length := by simp [xk]
theorem hmac_length (k m : List UInt8) : (hmac k m).length = 32 := sha_length _
theorem xi_length (k : List UInt8) (x : UInt8) (i : Nat) : (xi k x i).length = k.length := by simp [xi, xk]; omega
theorem xi_zero (k : List UInt8) (x : UInt8) : xi k x 0 = k := by simp [xi, xk]
theorem xi_all (k : List UInt8) (x : UInt8) : xi k x k.length = xk k x := by simp [xi]
theorem xi_at (k : List UInt8) (x : UInt8) (i : Nat) (h : i < k.length) : (xi k x i)[i]? = some (k.getD i 0) := by
  unfold xi
  rw [List.getElem?_append_right (by simp [xk]; omega)]
  simp [xk, h, List.getElem?_drop, Nat.min_eq_left (Nat.le_of_lt h)]
theorem xi_get (k : List UInt8) (x : UInt8) (i : Nat) (h : i < k.length) : (xi k x i).getD i 0 = k.getD i 0 := by
  rw [List.getD_eq_getElem?_getD, xi_at k x i h]; rfl
theorem xi_step (k : List UInt8) (x : UInt8) (i : Nat) (h : i < k.length) : (xi k x i).set i (k.getD i 0 ^^^ x) = xi k x (i + 1) := by
  have hl : (xk (k.take i) x).length = i := by simp [xk]; omega
  unfold xi
  rw [List.set_append_right _ _ (by omega), hl, Nat.sub_self, List.drop_eq_getElem_cons h, List.set_cons_zero, List.take_add_one, List.getElem?_eq_getElem h]
  simp only [xk, List.map_append, List.append_assoc]
  simp [h]
/-- what is copied into noughts -/
theorem bytesV_rep (n : Nat) : bytesV (List.replicate n 0) = List.replicate n (.int .u8 0) := by unfold bytesV; rw [List.map_replicate]; rfl
theorem fil_copy (s : List UInt8) : splice (bytesV (List.replicate 64 0)) 0 (bytesV s) = bytesV (s ++ List.replicate (64 - s.length) 0) := by
  rw [bytesV_rep]
  simp only [splice, bytesV, List.take_zero, List.nil_append, List.drop_replicate, List.length_map, Nat.zero_add, List.map_append, List.map_replicate]
  rfl
end Go.Proofs.YtomkkkbdipcjgaaDoor.Da
namespace Go.Proofs.YtomkkkbdipcjgaaDoor
open Go.RowKit
set_option linter.unusedVariables false
set_option linter.unusedSimpArgs false
/-- one part -/
theorem one_part {w : World} {ad : Option Addr} {c : Nat} {x : List UInt8} (hR : RowIs w ad (bytesV x) c) :
    RbIs (w.alloc (.cells #[.slice ad x.length c] 36)) (some ⟨w.heap.size, 0, none⟩) [x] 1 :=
  have hA : Arr (w.alloc (.cells #[.slice ad x.length c] 36)) w.heap.size 36 [.slice ad x.length c] := Arr.made _ _ _
  ⟨[.slice ad x.length c], ⟨by simp, by unfold maxLen; decide, fun h => by (cases h), fun h0 => ⟨w.heap.size, 0, rfl, hA.lt, fun i v hv => by rw [Nat.zero_add, hA.cell]; exact hv⟩⟩,
    Els.one ⟨ad, c, rfl, hR.later ((Below.refl _ _).alloc (Nat.le_refl _) _)⟩⟩
def Wi1 (k : List UInt8) (x : UInt8) (w : World) (g : Nat) (i : Value) (wr : World) : Prop :=
  ∃ j : Nat, j ≤ 64 ∧ i = .int .i64 j ∧ Arr wr g 126 (bytesV (Da.xi k x j)) ∧ Below w.heap.size w wr
theorem a64_zero (w : World) : Sem.run Tryd.prog (zeroValue 126) w = .ok (.agg (bytesV (List.replicate 64 0)).toArray) w := by kernel_rfl
end Go.Proofs.YtomkkkbdipcjgaaDoor
namespace Go.Proofs.YtomkkkbdipcjgaaDoor
open Go.RowKit
set_option linter.unusedVariables false
set_option linter.unusedSimpArgs false
/-- two parts -/
theorem two_parts {w : World} {a1 a2 : Option Addr} {c1 c2 : Nat} {x y : List UInt8} (h1 : RowIs w a1 (bytesV x) c1) (h2 : RowIs w a2 (bytesV y) c2) :
    RbIs (w.alloc (.cells #[.slice a1 x.length c1, .slice a2 y.length c2] 36)) (some ⟨w.heap.size, 0, none⟩) [x, y] 2 :=
  have hA : Arr (w.alloc (.cells #[.slice a1 x.length c1, .slice a2 y.length c2] 36)) w.heap.size 36 [.slice a1 x.length c1, .slice a2 y.length c2] := Arr.made _ _ _
  have hb : Below w.heap.size w (w.alloc (.cells #[.slice a1 x.length c1, .slice a2 y.length c2] 36)) := (Below.refl _ _).alloc (Nat.le_refl _) _
  ⟨[.slice a1 x.length c1, .slice a2 y.length c2], ⟨by simp, by unfold maxLen; decide, fun h => by (cases h), fun h0 => ⟨w.heap.size, 0, rfl, hA.lt, fun i v hv => by rw [Nat.zero_add, hA.cell]; exact hv⟩⟩,
    (Els.one ⟨a1, c1, rfl, h1.later hb⟩).app (Els.one ⟨a2, c2, rfl, h2.later hb⟩)⟩
end Go.Proofs.YtomkkkbdipcjgaaDoor
namespace Go.Proofs.YtomkkkbdipcjgaaDoor.Da
/-- what differs of the first n bytes, and in length -/
def dfN (a b : List UInt8) : Nat → Nat
  | 0 => a.length ^^^ b.length
  | n + 1 => dfN a b n ||| (a.getD n 0 ^^^ b.getD n 0).toNat
theorem dfN_lt (a b : List UInt8) (ha : a.length < 2 ^ 16) (hb : b.length < 2 ^ 16) : ∀ n, dfN a b n < 2 ^ 16
  | 0 => Nat.xor_lt_two_pow ha hb
  | n + 1 => Nat.or_lt_two_pow (dfN_lt a b ha hb n) (Nat.lt_trans (UInt8.toNat_lt _) (by decide))
theorem or_nil {p q : Nat} : p ||| q = 0 ↔ p = 0 ∧ q = 0 := Nat.or_eq_zero_iff
theorem dfN_nil (a b : List UInt8) : ∀ n, dfN a b n = 0 ↔ a.length = b.length ∧ ∀ i, i < n → a.getD i 0 = b.getD i 0
  | 0 => by
    rw [dfN]
    constructor
    · intro h
      refine ⟨Nat.eq_of_testBit_eq fun i => ?_, fun i hi => by omega⟩
      have := congrArg (fun n => n.testBit i) h
      simp only [Nat.testBit_xor, Nat.zero_testBit] at this
      revert this
      cases a.length.testBit i <;> cases b.length.testBit i <;> simp
    · rintro ⟨h, _⟩
      rw [h, Nat.xor_self]
  | n + 1 => by
    rw [dfN, or_nil, dfN_nil a b n]
    constructor
    · rintro ⟨⟨h1, h2⟩, h3⟩
      refine ⟨h1, fun i hi => ?_⟩
      by_cases e : i = n
      · subst e
        have h4 : a.getD i 0 ^^^ b.getD i 0 = 0 := UInt8.toNat_inj.1 h3
        exact UInt8.xor_eq_zero_iff.1 h4
      · exact h2 i (by omega)
    · rintro ⟨h1, h2⟩
      refine ⟨⟨h1, fun i hi => h2 i (by omega)⟩, ?_⟩
      rw [h2 n (by omega)]; simp
theorem dfN_eq (a b : List UInt8) : dfN a b (min a.length b.length) = 0 ↔ a = b := by
  rw [dfN_nil]
  constructor
  · rintro ⟨h1, h2⟩
    refine List.ext_getElem h1 fun i k1 k2 => ?_
    have := h2 i (by omega)
    simpa [k1, k2] using this
  · rintro rfl; exact ⟨rfl, fun _ _ => rfl⟩
end Go.Proofs.YtomkkkbdipcjgaaDoor.Da
namespace Go.Proofs.YtomkkkbdipcjgaaDoor
open Go.RowKit
set_option linter.unusedVariables false
set_option linter.unusedSimpArgs false
theorem or64 (p q : Nat) (hp : p < 2 ^ 16) (hq : q < 2 ^ 16) : bits .or .i64 (p : Int) (q : Int) = ((p ||| q : Nat) : Int) := by
  have hx : p ||| q < 2 ^ 16 := Nat.or_lt_two_pow hp hq
  have hp' : p % 2 ^ IntKind.i64.bits = p := Nat.mod_eq_of_lt (by show p < 2 ^ 64; omega)
  have hq' : q % 2 ^ IntKind.i64.bits = q := Nat.mod_eq_of_lt (by show q < 2 ^ 64; omega)
  simp only [bits, BitVec.ofInt_natCast, BitVec.toNat_or, BitVec.toNat_ofNat, hp', hq']
  rw [IntKind.wrap_i64]
  omega
def Sa1 (a b : List UInt8) (w : World) (d i : Value) (wr : World) : Prop :=
  ∃ n : Nat, n ≤ min a.length b.length ∧ i = .int .i64 n ∧ d = .int .i64 (Da.dfN a b n : Nat) ∧ Below w.heap.size w wr
end Go.Proofs.YtomkkkbdipcjgaaDoor
