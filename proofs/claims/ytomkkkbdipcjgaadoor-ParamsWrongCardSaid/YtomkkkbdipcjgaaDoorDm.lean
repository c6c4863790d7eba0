/- Division of polynomials, plain: what holds between the rounds, and what comes of it. And worlds in which the blocks of a set may have turned. -/
import Derived.Test.YtomkkkbdipcjgaaDoorMu
import Derived.Test.YtomkkkbdipcjgaaDoorGf
namespace Go.Proofs.YtomkkkbdipcjgaaDoor
open Go.RowKit
set_option linter.unusedVariables false
namespace Gf
theorem sm_one (f : Nat → UInt8) (t n : Nat) (h : t < n) : sm (fun j => if j = t then f j else 0) n = f t := by
  induction n with
  | zero => omega
  | succ n ih =>
    rw [sm]
    by_cases e : n = t
    · subst e
      rw [if_pos rfl, sm_zero (fun i hi => if_neg (by omega)), UInt8.zero_xor]
    · rw [if_neg e, ih (by omega), UInt8.xor_zero]
/-- a quotient of bytes -/
def gd (a b : UInt8) : UInt8 := UInt8.ofNat (mul a.toNat (inv b.toNat))
theorem gd_nat (a b : UInt8) : (gd a b).toNat = mul a.toNat (inv b.toNat) := by
  have := mul_lt a.toNat (inv b.toNat) (UInt8.toNat_lt a)
  simp only [gd, UInt8.toNat_ofNat']
  omega
theorem gd_gm (a b : UInt8) (h : b ≠ 0) : gm (gd a b) b = a := u8_ext (by
  have h0 : b.toNat ≠ 0 := fun e => h (u8_ext e)
  rw [gm_nat, gd_nat, mul_assoc _ _ _ (UInt8.toNat_lt a) (inv_lt _) (UInt8.toNat_lt b), mul_comm (inv b.toNat) b.toNat (inv_lt _) (UInt8.toNat_lt b), mul_inv _ h0 (UInt8.toNat_lt b)]
  exact mul_one_right _ (UInt8.toNat_lt a))
end Gf
/-- between the rounds: places from s on are done -/
structure DI (p q : List UInt8) (m s : Nat) (R Y : List UInt8) : Prop where
  lr : R.length = p.length
  ly : Y.length = p.length - m
  eq : ∀ k, co (mulL Y q) k ^^^ co R k = co p k
  top : ∀ k, s ≤ k → m ≤ k → co R k = 0
  low : ∀ j, j + m < s → co Y j = 0
theorem co_replicate (n k : Nat) : co (List.replicate n 0) k = 0 := by
  simp only [co, List.getD_eq_getElem?_getD, List.getElem?_replicate]
  split <;> rfl
theorem DI.start (p q : List UInt8) (m : Nat) : DI p q m p.length p (List.replicate (p.length - m) 0) := by
  refine ⟨rfl, by simp, fun k => ?_, fun k h _ => co_ge h, fun j _ => co_replicate _ _⟩
  rw [co_mulL, Gf.pm, Gf.sm_zero (fun i _ => by rw [co_replicate, Gf.zero_gm]), UInt8.zero_xor]
theorem DI.skip {p q : List UInt8} {m i : Nat} {R Y : List UInt8} (h : DI p q m (i + 1) R Y) (h0 : co R i = 0) : DI p q m i R Y :=
  ⟨h.lr, h.ly, h.eq, fun k hk hm => by
    by_cases e : k = i
    · rw [e]; exact h0
    · exact h.top k (by omega) hm, fun j hj => h.low j (by omega)⟩
theorem ps_ge {q : List UInt8} {n k : Nat} (h : n + q.length ≤ k) : Gf.ps n (co q) k = 0 := by
  unfold Gf.ps
  rw [if_pos (by omega)]
  exact co_ge (by omega)
theorem co_mix_all (ys z : List UInt8) (off k : Nat) (a : UInt8) (h : off + z.length ≤ ys.length) : co (mix ys off z a) k = co ys k ^^^ Gf.gm a (Gf.ps off (co z) k) := by
  by_cases hk : k < ys.length
  · rw [co_mix _ _ _ _ _ hk]
    congr 1
    unfold Gf.ps
    split
    · exact Gf.gm_comm _ _
    · rw [Gf.gm_zero]
  · rw [co_ge (by rw [mix_length]; omega), co_ge (by omega), ps_ge (by omega), Gf.gm_zero]; rfl
theorem DI.step {p q : List UInt8} {m i : Nat} {R Y : List UInt8} (h : DI p q m (i + 1) R Y) (hm : m ≤ i) (hi : i < p.length) (hq : q.length = m + 1) (by_ : UInt8) (hb : Gf.gm by_ (co q m) = co R i) :
    DI p q m i (mix R (i - m) q by_) (Y.set (i - m) by_) := by
  have hlr := h.lr
  have hly := h.ly
  have hmix : ∀ k, co (mix R (i - m) q by_) k = co R k ^^^ Gf.gm by_ (Gf.ps (i - m) (co q) k) := fun k => co_mix_all _ _ _ _ _ (by omega)
  refine ⟨by simpa using hlr, by simpa using hly, fun k => ?_, fun k hk hmk => ?_, fun j hj => ?_⟩
  · rw [hmix, co_mulL, ← h.eq k, co_mulL, List.length_set]
    have e : Gf.pm Y.length (co (Y.set (i - m) by_)) (co q) k = Gf.pm Y.length (co Y) (co q) k ^^^ Gf.gm by_ (Gf.ps (i - m) (co q) k) := by
      unfold Gf.pm
      have e1 := Gf.sm_one (fun j => Gf.gm by_ (Gf.ps j (co q) k)) (i - m) Y.length (by omega)
      rw [← e1, ← Gf.sm_xor]
      refine Gf.sm_congr fun j hj => ?_
      rw [co_set]
      by_cases ej : j = i - m
      · rw [if_pos ⟨ej.symm, by omega⟩, if_pos ej, h.low j (by omega), Gf.zero_gm, UInt8.zero_xor]
      · rw [if_neg (fun h => ej h.1.symm), if_neg ej, UInt8.xor_zero]
    rw [e, Gf.xor_swap]
    rw [UInt8.xor_comm (Gf.gm _ _) (Gf.gm _ _)]
    rw [show co R k = co R k from rfl]
    rw [UInt8.xor_self, UInt8.xor_zero]
  · rw [hmix]
    by_cases e : k = i
    · subst e
      unfold Gf.ps
      rw [if_pos (by omega), show k - (k - m) = m by omega, hb, UInt8.xor_self]
    · rw [h.top k (by omega) hmk, ps_ge (by omega), Gf.gm_zero]; rfl
  · rw [co_set, if_neg (by omega)]
    exact h.low j (by omega)
/-- quotient and rest -/
structure DivOf (p q a b : List UInt8) : Prop where
  trimA : tr a = a
  trimB : tr b = b
  less : b.length < (tr q).length
  eq : ∀ k, co (mulL a q) k ^^^ co b k = co p k
theorem tr_of_top {z : List UInt8} (h : z.length ≠ 0 → co z (z.length - 1) ≠ 0) : tr z = z := by
  have e : tl z z.length = z.length := tl_unique z z.length z.length (Nat.le_refl _) (fun i h1 h2 => absurd h1 (by omega)) h
  unfold tr
  rw [e, List.take_length]
theorem tr_low {R : List UInt8} {m : Nat} (h : ∀ k, m ≤ k → co R k = 0) : (tr R).length ≤ m := by
  rw [tr_length]
  by_cases e : tl R R.length ≤ m
  · exact e
  · exact absurd (h _ (by omega)) (tl_top R R.length (by omega))
theorem DI.done {p q : List UInt8} {m s : Nat} {R Y : List UInt8} (h : DI (tr p) (tr q) m s R Y) (hs : s ≤ m) (hq : (tr q).length = m + 1) : DivOf p q Y (tr R) := by
  have hly := h.ly
  have hz : ∀ k, m ≤ k → co R k = 0 := fun k hk => h.top k (by omega) hk
  have hmul : ∀ k, co (mulL Y q) k = co (mulL Y (tr q)) k := fun k => by
    exact mulL_congr (fun _ => rfl) (fun i => (co_tr q i).symm) k
  refine ⟨tr_of_top fun h0 => ?_, tr_tr R, by have := tr_low hz; omega, fun k => ?_⟩
  · intro e
    have htop : co (tr p) ((tr p).length - 1) ≠ 0 := by
      rw [co_tr, tr_length]
      exact tl_top p p.length (by rw [← tr_length]; omega)
    refine htop ?_
    rw [← h.eq, hz _ (by omega), UInt8.xor_zero, co_mulL]
    refine Gf.sm_zero fun j hj => ?_
    by_cases ej : j = Y.length - 1
    · rw [ej, e, Gf.zero_gm]
    · rw [ps_ge (by omega), Gf.gm_zero]
  · rw [co_tr, hmul, h.eq, co_tr]
/-- the blocks of M may have turned -/
structure Bts (M : Nat → Prop) (B : Nat) (X X' : World) : Prop where
  os : X'.os = X.os
  tape : X'.tape = X.tape
  output : X'.output = X.output
  size : X.heap.size ≤ X'.heap.size
  same : ∀ k o, ¬ M k → X.heap[k]? = some o → o.isCells = true ∨ k < B → X'.heap[k]? = some o
theorem Bts.refl (M : Nat → Prop) (B : Nat) (X : World) : Bts M B X X := ⟨rfl, rfl, rfl, Nat.le_refl _, fun _ _ _ h _ => h⟩
theorem Bts.trans {M : Nat → Prop} {B : Nat} {X Y Z : World} (h : Bts M B X Y) (k : Bts M B Y Z) : Bts M B X Z :=
  ⟨k.os.trans h.os, k.tape.trans h.tape, k.output.trans h.output, Nat.le_trans h.size k.size, fun i o hg hi ho => k.same i o hg (h.same i o hg hi ho) ho⟩
theorem Bts.of_nc {M : Nat → Prop} {B B' : Nat} {X Y : World} (h : Rf.NC B' X Y) (hB : B ≤ B') : Bts M B X Y := ⟨h.os, h.tape, h.output, h.size, fun i o _ hi ho => h.same i o hi (ho.imp id (fun h => by omega))⟩
theorem Bts.of_only {M : Nat → Prop} {g B : Nat} {X Y : World} (h : Only g X Y) (hg : M g) : Bts M B X Y :=
  ⟨h.os, h.tape, h.output, h.size, fun i o hn hi _ => (h.block i (Array.getElem?_eq_some_iff.1 hi).1 (fun e => hn (by cases e; exact hg))).trans hi⟩
theorem Bts.cell {M : Nat → Prop} {B : Nat} {X Y : World} (h : Bts M B X Y) {p : Addr} {v : Value} (hp : ¬ M p.block) (hv : X.cell? p = some v) : Y.cell? p = some v := by
  obtain ⟨o, ho, hc⟩ := cells_of_cell hv
  exact (World.cell?_of_block ((h.same _ o hp ho (.inl hc)).trans ho.symm)).trans hv
theorem Bts.row {M : Nat → Prop} {B : Nat} {a b : World} (h : Bts M B a b) {o : Option Addr} {vs : List Value} {c : Nat} (hr : RowIs a o vs c) (hne : 0 < vs.length → ∀ p, o = some p → ¬ M p.block) : RowIs b o vs c :=
  ⟨hr.le, hr.cap, hr.nil, fun h0 => by
    obtain ⟨p, off, e, hlt, hc⟩ := hr.cells h0
    exact ⟨p, off, e, Nat.lt_of_lt_of_le hlt h.size, fun i v hv => h.cell (p := ⟨p, off + i, none⟩) (show ¬ M p from hne h0 ⟨p, off, none⟩ e) (hc i v hv)⟩⟩
theorem Bts.boxed {M : Nat → Prop} {B k : Nat} {t : TypeId} {v : Value} {a b : World} (h : Bts M B a b) (ht : Boxed a k t v) (hne : ¬ M k) : Boxed b k t v := h.same k _ hne ht (.inl rfl)
theorem Bts.below {M : Nat → Prop} {B n : Nat} {X X' : World} (h : Bts M B X X') (hg : ∀ k, M k → n ≤ k) (hn : n ≤ B) (hx : n ≤ X.heap.size) : Below n X X' :=
  ⟨h.os, h.tape, h.output, h.size, fun k hk => by
    have hlt : k < X.heap.size := by omega
    rw [Array.getElem?_eq_getElem hlt]
    exact h.same k _ (fun hm => absurd (hg k hm) (by omega)) (Array.getElem?_eq_getElem hlt) (.inr (by omega))⟩
end Go.Proofs.YtomkkkbdipcjgaaDoor
