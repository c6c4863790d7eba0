/- The document's digest: what follows the bytes. -/
import Derived.Test.YtomkkkbdipcjgaaDoorHk
namespace Go.Proofs.YtomkkkbdipcjgaaDoor
open Go.RowKit
set_option linter.unusedVariables false
set_option linter.unusedSimpArgs false
theorem d32_info : (Tryd.prog.info? 125).map (·.size) = some 32 := by kernel_rfl
theorem d32_under : Tryd.prog.underlying 125 = some (.array 32 5) := by kernel_rfl
theorem d32_zero (w : World) : Sem.run Tryd.prog (zeroValue 125) w = .ok (.agg (bytesV (List.replicate 32 0)).toArray) w := by kernel_rfl
theorem d32_built : Tryd.prog.built 125 [] = some (bytesV (List.replicate 32 0)).toArray := by kernel_rfl
theorem one_row (W : World) (x : UInt8) : RowIs (W.alloc (.cells #[.int .u8 (x.toNat : Int)] 5)) (some ⟨W.heap.size, 0, none⟩) (bytesV [x]) 1 :=
  (Arr.made W 5 (bytesV [x])).row (by unfold maxLen; simp)
def slen2 : Value → Nat
  | .slice _ n _ => n
  | _ => 0
/-- noughts are laid behind the 128 -/
def Rp1 (z : List UInt8) (W1 : World) (v : Value) (wr : World) : Prop :=
  ∃ d L : Nat, z.length + 1 + d = L ∧ d ≤ Da.zn z.length ∧ wr.ownsRow W1.heap.size 5 1 v L (bytesV (z ++ 128 :: List.replicate d 0)) ∧ Below W1.heap.size W1 wr
/-- the length is laid behind these -/
def Rp2 (z : List UInt8) (W1 : World) (v i : Value) (wr : World) : Prop :=
  ∃ k L : Nat, k ≤ 8 ∧ i = .int .i64 (7 - (k : Int)) ∧ z.length + 1 + Da.zn z.length + k = L ∧ wr.ownsRow W1.heap.size 5 1 v L (bytesV ((z ++ 128 :: List.replicate (Da.zn z.length) 0) ++ (Da.be8 (8 * z.length)).take k)) ∧ Below W1.heap.size W1 wr
def Ro7 (st : List UInt32) (g g2 : Nat) (w : World) (i : Value) (wr : World) : Prop :=
  ∃ k : Nat, k ≤ 8 ∧ i = .int .i64 k ∧ Arr wr g2 125 (bytesV (dgp st (4 * k))) ∧ Arr wr g 125 (bytesV (List.replicate 32 0)) ∧ Below w.heap.size w wr
theorem put_word {W X : World} {b n i : Nat} {T : TypeId} {l l' : List UInt32} (h : Arr W b T (u32V l) ∧ Below n X W) (hn : n ≤ b) (x : UInt32) (e : l.set i x = l') :
    Arr (W.setCell ⟨b, i, none⟩ (.int .u32 (x.toNat : Int))) b T (u32V l') ∧ Below n X (W.setCell ⟨b, i, none⟩ (.int .u32 (x.toNat : Int))) :=
  ⟨by rw [← e, ← u32V_set]; exact h.1.set i _, h.1.below h.2 hn i _⟩
theorem put_byte {W X : World} {b n i : Nat} {T : TypeId} {l l' : List UInt8} (h : Arr W b T (bytesV l) ∧ Below n X W) (hn : n ≤ b) (x : UInt8) (e : l.set i x = l') :
    Arr (W.setCell ⟨b, i, none⟩ (.int .u8 (x.toNat : Int))) b T (bytesV l') ∧ Below n X (W.setCell ⟨b, i, none⟩ (.int .u8 (x.toNat : Int))) :=
  ⟨by rw [← e, ← bytesV_set']; exact h.1.set i _, h.1.below h.2 hn i _⟩
theorem zn_min (n L : Nat) (h1 : n + 1 ≤ L) (h2 : L < n + 1 + Da.zn n) : L % 64 ≠ 56 := by
  unfold Da.zn at h2
  split at h2 <;> omega
theorem zn_end (n : Nat) : (n + 1 + Da.zn n) % 64 = 56 := by
  unfold Da.zn
  split <;> omega
theorem be8_step (m k : Nat) (h : k < 8) : (Da.be8 m).take (k + 1) = (Da.be8 m).take k ++ [UInt8.ofNat (m / 256 ^ (7 - k))] := by
  rw [List.take_add_one, List.getElem?_eq_getElem (by rw [Da.be8_length]; exact h)]
  simp [Da.be8]
end Go.Proofs.YtomkkkbdipcjgaaDoor
