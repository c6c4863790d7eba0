/- Contract of multiply: a product, looked up. The iterator over the factors of Roots. Contract of multiplyAll: the product of factors that an iterator hands over. Contracts of value and Eval. Rows that fill their block: made, copied into. Contracts of Add and Mul. -/
import Derived.Test.YtfccpfmgkpcnoaaDoorTm
import Derived.Test.YtfccpfmgkpcnoaaDoorSl
import Derived.Laws.CopyOwn
namespace Go.Proofs.YtfccpfmgkpcnoaaDoor
open Go.RowKit
set_option linter.unusedVariables false
attribute [local go_sem] Oper.semAt_some
end Go.Proofs.YtfccpfmgkpcnoaaDoor
namespace Go.Proofs.YtfccpfmgkpcnoaaDoor
open Go.RowKit
set_option linter.unusedVariables false
attribute [local go_sem] Oper.semAt_some
end Go.Proofs.YtfccpfmgkpcnoaaDoor
namespace Go.Proofs.YtfccpfmgkpcnoaaDoor
open Go.RowKit
set_option linter.unusedVariables false
attribute [local go_sem] Oper.semAt_some
/-- the product of the first factors -/
def prodL (F : UInt8 → List UInt8) (z : List UInt8) : Nat → List UInt8
  | 0 => [1]
  | n + 1 => mulL (prodL F z n) (F (co z n))
theorem prodL_length (F : UInt8 → List UInt8) (z : List UInt8) (hF : ∀ x, (F x).length = 2) (n : Nat) : (prodL F z n).length = 1 + 2 * n := by
  induction n with
  | zero => rfl
  | succ n ih => simp [prodL, mulL, ih, hF]; omega
/-- the product so far lies where the variable in block b says -/
def SoFar (b B : Nat) (m : List UInt8) (X : World) : Prop := ∃ g cap, B ≤ g ∧ g ≠ b ∧ Boxed X b 27 (.slice (some ⟨g, 0, none⟩) (tr m).length cap) ∧ RowIs X (some ⟨g, 0, none⟩) (bytesV (tr m)) cap
theorem SoFar.nc {b B B' : Nat} {m : List UInt8} {X X' : World} (h : SoFar b B m X) (k : Rf.NC B' X X') : SoFar b B m X' := by
  obtain ⟨g, cap, h1, h2, h3, h4⟩ := h
  exact ⟨g, cap, h1, h2, k.cells h3, h4.nc k⟩
theorem row_cells {X : World} {A : Nat} {z : List UInt8} (h : X.heap[A]? = some (.cells (bytesV z).toArray 5 (0, 0))) (hm : z.length ≤ maxLen) : RowIs X (some ⟨A, 0, none⟩) (bytesV z) z.length :=
  ⟨by simp, hm, (fun e => by cases e), fun h0 => ⟨A, 0, rfl, (Array.getElem?_eq_some_iff.1 h).1, fun i v hv => by
    rw [Nat.zero_add]
    simp only [World.cell?, h]
    simpa using hv⟩⟩
theorem tr_one : tr [1] = [1] := by decide
/-- what an iterator over factors must do -/
def Factors (k : Nat) (F : UInt8 → List UInt8) (z : List UInt8) (o : Option Addr) (c Q : Nat) : Prop :=
  ∀ (l : Nat) (I : Nat → World → Prop) (B Bx : World → Prop) (w : World)
    (hI : ∀ i X, I i X → Boxed X Q 27 (.slice o z.length c) ∧ RowIs X o (bytesV z) c)
    (hA : ∀ i X ob, I i X → I i (X.alloc ob)) (hBk : ∀ X X', B X → KeepsOthers X X' → B X')
    (hturn : ∀ i A X, I i X → B X → i < z.length → X.heap[A]? = some (.cells (bytesV (F (co z i))).toArray 5 (0, 0)) →
      YieldAt Fence.wide 0 Tryd.prog l #[.slice (some ⟨A, 0, none⟩) 2 2] X fun e X' => (e = .returned (.bool true) ∧ I (i + 1) X' ∧ B X') ∨ (e = .returned (.bool false) ∧ Bx X'))
    (h0 : I 0 w) (hB : B w),
    Calls Tryd.prog k #[.func (.yield l) #[] #[], .pointer (some ⟨Q, 0, none⟩)] w fun e X => (∃ v, e = .returned v) ∧ ((I z.length X ∧ B X) ∨ Bx X)
end Go.Proofs.YtfccpfmgkpcnoaaDoor
namespace Go.Proofs.YtfccpfmgkpcnoaaDoor
open Go.RowKit
set_option linter.unusedVariables false
def HorAt (z : List UInt8) (x : UInt8) (w : World) (s i : Value) (wr : World) : Prop :=
  ∃ k : Nat, k ≤ z.length ∧ i = .int .i64 ((z.length : Int) - k - 1) ∧ s = .int .u8 ((Gf.horner (co z) x k (z.length - k)).toNat : Int) ∧ Kit.Dn w wr
end Go.Proofs.YtfccpfmgkpcnoaaDoor
namespace Go.Proofs.YtfccpfmgkpcnoaaDoor
open Go.RowKit
set_option linter.unusedVariables false
def Full (W : World) (g : Nat) (ys : List UInt8) : Prop := W.heap[g]? = some (.cells (bytesV ys).toArray 5 (0, 0))
theorem Full.buf {W : World} {g : Nat} {ys : List UInt8} (h : Full W g ys) (hm : ys.length ≤ maxLen) : Buf W g ys.length ys :=
  ⟨by simp, .inr ⟨g, ys.length, _, rfl, Nat.zero_le _, h, Nat.le_refl _, hm, by simp, by rw [Nat.mul_one]; exact List.take_of_length_le (by simp)⟩⟩
theorem Buf.full {W : World} {g n : Nat} {ys : List UInt8} (h : Buf W g n ys) (hn : n = ys.length) : Full W g ys := by
  subst hn
  obtain ⟨hl, hx⟩ := h
  rcases hx with ⟨h, _⟩ | ⟨g', cap', cur, h, _, hh, _, _, hcur, htake⟩
  · cases h
  · injection h with h1 h2 h3
    injection h1 with h1
    injection h1 with h1
    subst h1; subst h3
    unfold Full
    rw [hh]
    have e : cur = (bytesV ys).toArray := by
      apply Array.ext'
      rw [← htake, List.take_of_length_le (by simp [hcur])]
    rw [e]
theorem splice_bytes (ys z : List UInt8) (off : Nat) : splice (bytesV ys) off (bytesV z) = bytesV (splice ys off z) := by
  simp [splice, bytesV]
theorem co_splice (ys z : List UInt8) (off i : Nat) (h : off + z.length ≤ ys.length) : co (splice ys off z) i = if off ≤ i ∧ i < off + z.length then co z (i - off) else co ys i := by
  unfold splice co
  simp only [List.getD_eq_getElem?_getD]
  by_cases h1 : i < off
  · rw [if_neg (by omega), List.getElem?_append_left (by simp; omega), List.getElem?_take_of_lt h1]
  · rw [List.getElem?_append_right (by simp; omega)]
    have e : (ys.take off).length = off := by simp; omega
    rw [e]
    by_cases h2 : i < off + z.length
    · rw [if_pos ⟨by omega, h2⟩, List.getElem?_append_left (by omega)]
    · rw [if_neg (by omega), List.getElem?_append_right (by omega), List.getElem?_drop]
      congr 2; omega
theorem zeros_co (n i : Nat) : co (List.replicate n 0) i = 0 := by
  simp only [co, List.getD_eq_getElem?_getD, List.getElem?_replicate]
  split <;> rfl
end Go.Proofs.YtfccpfmgkpcnoaaDoor
namespace Go.Proofs.YtfccpfmgkpcnoaaDoor
open Go.RowKit
set_option linter.unusedVariables false
def AddAt (w0 : World) (g n : Nat) (ys q : List UInt8) (i : Value) (wr : World) : Prop :=
  ∃ k : Nat, k ≤ q.length ∧ i = .int .i64 k ∧ Buf wr g n (mix ys 0 (q.take k) 1) ∧ Only g w0 wr
end Go.Proofs.YtfccpfmgkpcnoaaDoor
