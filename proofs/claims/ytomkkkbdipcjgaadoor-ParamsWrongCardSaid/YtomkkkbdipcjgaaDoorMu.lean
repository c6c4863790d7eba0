/- The iterator over the coefficients that aren't 0, and what goes by it: Degree, cut. Rows of bytes that are written: what lies in a block, and what a store makes of it. Contract of addScaled: a polynomial times a number is added to a sum. Contract of multiply: a product, looked up. The iterator over the factors of Roots. Contract of multiplyAll: the product of factors that an iterator hands over. Contracts of value and Eval. Rows that fill their block: made, copied into. Contracts of Add and Mul. -/
import Derived.Test.YtomkkkbdipcjgaaDoorRf
import Derived.Test.YtomkkkbdipcjgaaDoorGf
import Derived.Test.YtomkkkbdipcjgaaDoorSl
import Derived.Test.YtomkkkbdipcjgaaDoorFwm
import Derived.Outline
import Derived.Deep.QuietTactic
import Derived.BigQuiet
import Derived.Deep.RegionHeld3
import Derived.Laws.CopyOwn
namespace Go.Proofs.YtomkkkbdipcjgaaDoor
open Go.RowKit Go.Shelf
set_option linter.unusedVariables false
theorem makes {P : Program} (fn : Fn) (first cap : Array Value) (w : World) : (Instr.makeFunc fn first cap).run P w = .ok (.func fn first cap) w := by kernel_rfl

theorem RowIs.nc {B : Nat} {X X' : World} {o : Option Addr} {vs : List Value} {c : Nat} (h : RowIs X o vs c) (k : Rf.NC B X X') : RowIs X' o vs c :=
  ⟨h.le, h.cap, h.nil, fun h0 => by
    obtain ⟨b, off, e, hlt, hc⟩ := h.cells h0
    exact ⟨b, off, e, Nat.lt_of_lt_of_le hlt k.size, fun i v hv => k.cell (hc i v hv)⟩⟩
theorem RowIs.uniq {X : World} {o : Option Addr} {a b : List UInt8} {c d : Nat} (h : RowIs X o (bytesV a) c) (k : RowIs X o (bytesV b) d) (hl : a.length = b.length) : a = b := by
  by_cases h0 : 0 < a.length
  · obtain ⟨p, off, rfl, _, hc⟩ := h.cells (by simpa using h0)
    obtain ⟨p', off', e, _, kc⟩ := k.cells (by simp; omega)
    injection e with e
    injection e with e1 e2
    subst e1; subst e2
    refine list_ext hl fun i hi => ?_
    have h1 := hc i _ (bytesV_get a i hi)
    have h2 := kc i _ (bytesV_get b i (by omega))
    rw [h1] at h2
    have h3 : (((a.getD i 0).toNat : Int)) = ((b.getD i 0).toNat : Int) := by
      injection h2 with h2
      injection h2
    exact Gf.u8_ext (Int.ofNat.inj h3)
  · rw [List.eq_nil_of_length_eq_zero (show a.length = 0 by omega), List.eq_nil_of_length_eq_zero (show b.length = 0 by omega)]
attribute [local go_sem] Oper.semAt_some
theorem RowIs.take {W : World} {o : Option Addr} {z : List UInt8} {c : Nat} (h : RowIs W o (bytesV z) c) (n : Nat) : RowIs W o (bytesV (z.take n)) c :=
  ⟨by have := h.le; simp at *; omega, h.cap, h.nil, fun h0 => by
    obtain ⟨b, off, e, hlt, hc⟩ := h.cells (by simp at *; omega)
    refine ⟨b, off, e, hlt, fun i v hv => hc i v ?_⟩
    have hi := (List.getElem?_eq_some_iff.1 hv).1
    simp only [bytesV_length, List.length_take] at hi
    rw [← hv]
    unfold bytesV
    rw [List.map_take, List.getElem?_take_of_lt (by omega)]⟩
end Go.Proofs.YtomkkkbdipcjgaaDoor
namespace Go.Proofs.YtomkkkbdipcjgaaDoor
open Go.RowKit
set_option linter.unusedVariables false
/-- the slice at the head of block g, of capacity cap, has the bytes ys, and may be written -/
def Buf (W : World) (g cap : Nat) (ys : List UInt8) : Prop := W.ownsRow 0 5 1 (.slice (some ⟨g, 0, none⟩) ys.length cap) ys.length (bytesV ys)
theorem Buf.lt {W : World} {g cap : Nat} {ys : List UInt8} (h : Buf W g cap ys) : g < W.heap.size := (World.ownsRow.lt h g rfl).2
theorem Buf.le {W : World} {g cap : Nat} {ys : List UInt8} (h : Buf W g cap ys) : ys.length ≤ cap ∧ cap ≤ maxLen := by
  obtain ⟨hl, hx⟩ := h
  rcases hx with ⟨h, _⟩ | ⟨g', cap', cur, h, _, hh, h1, h2, hcur, htake⟩
  · cases h
  · injection h with _ _ h3
    subst h3
    exact ⟨h1, h2⟩
theorem Buf.later {W W' : World} {g cap : Nat} {ys : List UInt8} (h : Buf W g cap ys) (hb : Below W.heap.size W W') : Buf W' g cap ys := by
  have hlt := h.lt
  obtain ⟨hl, hx⟩ := h
  refine ⟨hl, ?_⟩
  rcases hx with hx | ⟨g', cap', cur, h, h0, hh, h4⟩
  · exact .inl hx
  · injection h with h1 h2 h3
    injection h1 with h1
    injection h1 with h1
    subst h1
    exact .inr ⟨g, cap', cur, by rw [h3], h0, by rw [hb.block g hlt]; exact hh, h4⟩
theorem Buf.nc {B : Nat} {X X' : World} {g cap : Nat} {ys : List UInt8} (h : Buf X g cap ys) (k : Rf.NC B X X') : Buf X' g cap ys := k.owns h
theorem Buf.cells {W : World} {g cap : Nat} {ys : List UInt8} (h : Buf W g cap ys) : ∃ cur, W.heap[g]? = some (.cells cur 5 (0, 0)) := by
  obtain ⟨hl, hx⟩ := h
  rcases hx with ⟨h, _⟩ | ⟨g', cap', cur, h, _, hh, h1, h2, hcur, htake⟩
  · cases h
  · injection h with h1 _ _
    injection h1 with h1
    injection h1 with h1
    subst h1
    exact ⟨cur, hh⟩
theorem Buf.cell {W : World} {g cap : Nat} {ys : List UInt8} (h : Buf W g cap ys) (i : Nat) (hi : i < ys.length) : W.cell? ⟨g, i, none⟩ = some (.int .u8 ((co ys i).toNat : Int)) := by
  have := World.ownsRow.cellAt h i (by omega)
  rw [this]
  exact bytesV_get ys i hi
theorem Buf.frozen {W : World} {g cap : Nat} {ys : List UInt8} (h : Buf W g cap ys) (i : Nat) : W.frozen? ⟨g, i, none⟩ = false := World.ownsRow.frozenAt h i
theorem bytesV_set (ys : List UInt8) (i : Nat) (b : UInt8) : (bytesV ys).set i (.int .u8 (b.toNat : Int)) = bytesV (ys.set i b) := by
  simp [bytesV, List.map_set]
theorem Buf.store {W : World} {g cap : Nat} {ys : List UInt8} (h : Buf W g cap ys) (i : Nat) (b : UInt8) :
    Buf (W.setCell ⟨g, i, none⟩ (.int .u8 (b.toNat : Int))) g cap (ys.set i b) ∧ W.grownBy (W.setCell ⟨g, i, none⟩ (.int .u8 (b.toNat : Int))) (some g) := by
  have := World.ownsRow.stored h i (.int .u8 (b.toNat : Int))
  refine ⟨?_, this.2⟩
  have h1 := this.1
  rw [bytesV_set] at h1
  unfold Buf
  rw [List.length_set]
  exact h1
theorem Buf.row {W : World} {g cap : Nat} {ys : List UInt8} (h : Buf W g cap ys) : RowIs W (some ⟨g, 0, none⟩) (bytesV ys) cap :=
  ⟨by have := h.le; simp; omega, h.le.2, (fun e => by cases e), fun h0 => ⟨g, 0, rfl, h.lt, fun i v hv => by
    have hi := (List.getElem?_eq_some_iff.1 hv).1
    rw [Nat.zero_add, World.ownsRow.cellAt h i (by simp at hi; omega)]
    exact hv⟩⟩
/-- the bytes of block g alone may have turned -/
def Only (g : Nat) (W W' : World) : Prop := W.grownBy W' (some g)
theorem Only.refl (g : Nat) (W : World) : Only g W W := ⟨rfl, rfl, rfl, Nat.le_refl _, fun _ _ _ => rfl⟩
theorem Only.trans {g : Nat} {a b c : World} (h : Only g a b) (k : Only g b c) : Only g a c :=
  ⟨k.os.trans h.os, k.tape.trans h.tape, k.output.trans h.output, Nat.le_trans h.size k.size, fun i hi hn => (k.block i (Nat.lt_of_lt_of_le hi h.size) hn).trans (h.block i hi hn)⟩
theorem Only.of_below {g : Nat} {a b : World} (h : Below a.heap.size a b) : Only g a b := ⟨h.os, h.tape, h.output, h.size, fun i hi _ => h.block i hi⟩
theorem Only.below {g n : Nat} {a b : World} (h : Only g a b) (hg : n ≤ g) (hn : n ≤ a.heap.size) : Below n a b := (Below.refl n a).grown h hn (fun k e => by cases e; exact hg)
theorem Only.keeps {g cap : Nat} {ys : List UInt8} {a b : World} (h : Only g a b) (hb : Buf a g cap ys) : KeepsOthers a b := by
  obtain ⟨cur, hc⟩ := hb.cells
  refine KeepsOthers.of_grownBy h (fun j o e hj => ?_)
  cases e
  rw [hc] at hj
  cases hj
  rfl
theorem Only.cell {g : Nat} {a b : World} (h : Only g a b) {p : Addr} {v : Value} (hp : p.block ≠ g) (hv : a.cell? p = some v) : b.cell? p = some v := World.grownBy.cell h hv (fun e => hp (by cases e; rfl))
theorem RowIs.apart {w : World} {o : Option Addr} {vs : List Value} {c : Nat} (hr : RowIs w o vs c) {g : Nat} (hg : w.heap.size ≤ g) : 0 < vs.length → ∀ p, o = some p → p.block ≠ g := fun h0 p e => by
  obtain ⟨b, off, e2, hlt, _⟩ := hr.cells h0
  rw [e] at e2
  cases e2
  show b ≠ g
  omega
theorem Only.row {g : Nat} {a b : World} (h : Only g a b) {o : Option Addr} {vs : List Value} {c : Nat} (hr : RowIs a o vs c) (hne : 0 < vs.length → ∀ p, o = some p → p.block ≠ g) : RowIs b o vs c :=
  ⟨hr.le, hr.cap, hr.nil, fun h0 => by
    obtain ⟨p, off, e, hlt, hc⟩ := hr.cells h0
    exact ⟨p, off, e, Nat.lt_of_lt_of_le hlt h.size, fun i v hv => h.cell (p := ⟨p, off + i, none⟩) (show p ≠ g from hne h0 _ e) (hc i v hv)⟩⟩
theorem keeps_below {a b : World} (h : Below a.heap.size a b) : KeepsOthers a b :=
  ⟨h.size, fun k o hk _ => by rw [h.block k (Array.getElem?_eq_some_iff.1 hk).1]; exact hk⟩
theorem co_set (ys : List UInt8) (i j : Nat) (b : UInt8) : co (ys.set i b) j = if i = j ∧ i < ys.length then b else co ys j := by
  unfold co
  rw [List.getD_eq_getElem?_getD, List.getD_eq_getElem?_getD, List.getElem?_set]
  by_cases e : i = j
  · subst e
    by_cases h : i < ys.length
    · simp [h]
    · simp [h]
  · simp [e]
/-- a times z is added from place off on -/
def mix (ys : List UInt8) (off : Nat) (z : List UInt8) (a : UInt8) : List UInt8 := tab (fun i => co ys i ^^^ Gf.ps off (fun j => Gf.gm (co z j) a) i) ys.length
@[simp] theorem mix_length (ys : List UInt8) (off : Nat) (z : List UInt8) (a : UInt8) : (mix ys off z a).length = ys.length := by simp [mix]
theorem co_mix (ys : List UInt8) (off : Nat) (z : List UInt8) (a : UInt8) (i : Nat) (h : i < ys.length) : co (mix ys off z a) i = co ys i ^^^ Gf.ps off (fun j => Gf.gm (co z j) a) i := co_tab _ _ _ h
theorem mix_zero (ys : List UInt8) (off : Nat) (z : List UInt8) (a : UInt8) : mix ys off (z.take 0) a = ys := by
  refine list_ext (by simp) fun i hi => ?_
  rw [co_mix _ _ _ _ _ (by simpa using hi)]
  unfold Gf.ps
  split
  · show co ys i ^^^ Gf.gm (co (z.take 0) (i - off)) a = _
    rw [co_take, if_neg (by omega), Gf.zero_gm, UInt8.xor_zero]
  · rw [UInt8.xor_zero]
theorem mix_step (ys : List UInt8) (off : Nat) (z : List UInt8) (a : UInt8) (k : Nat) (hk : k < z.length) (hl : off + z.length ≤ ys.length) :
    (mix ys off (z.take k) a).set (off + k) (co (mix ys off (z.take k) a) (off + k) ^^^ Gf.gm (co z k) a) = mix ys off (z.take (k + 1)) a := by
  refine list_ext (by simp) fun i hi => ?_
  have hi2 : i < ys.length := by simpa using hi
  rw [co_set, co_mix _ _ _ _ i hi2, co_mix _ _ _ _ i hi2, co_mix _ _ _ _ (off + k) (by omega)]
  by_cases e : off + k = i
  · subst e
    rw [if_pos ⟨rfl, by simp; omega⟩]
    unfold Gf.ps
    rw [if_pos (by omega), if_pos (by omega), Nat.add_sub_cancel_left]
    dsimp only
    rw [co_take, co_take, if_neg (by omega), if_pos (by omega), Gf.zero_gm, UInt8.xor_zero]
  · rw [if_neg (fun h => e h.1)]
    unfold Gf.ps
    split
    · dsimp only
      rw [co_take, co_take]
      by_cases h2 : i - off < k
      · rw [if_pos h2, if_pos (by omega)]
      · rw [if_neg h2, if_neg (by omega)]
    · rfl
/-- the zero value's cells, many times -/
theorem buf_made {W : World} {g n : Nat} (h : W.ownsRow 0 5 1 (.slice (some ⟨g, 0, none⟩) n n) n (madeCells #[.int .u8 0] n).toList) : Buf W g n (List.replicate n 0) := by
  unfold Buf
  have e : (madeCells #[.int .u8 0] n).toList = bytesV (List.replicate n 0) := by
    rw [toList_madeCells_one]
    simp [bytesV]
  rw [e] at h
  rw [List.length_replicate]
  exact h
/-- blocks of cells but g, and whatever lies below B but g, lie as they lay -/
structure Bt (g B : Nat) (X X' : World) : Prop where
  os : X'.os = X.os
  tape : X'.tape = X.tape
  output : X'.output = X.output
  size : X.heap.size ≤ X'.heap.size
  same : ∀ k o, k ≠ g → X.heap[k]? = some o → o.isCells = true ∨ k < B → X'.heap[k]? = some o
theorem Bt.refl (g B : Nat) (X : World) : Bt g B X X := ⟨rfl, rfl, rfl, Nat.le_refl _, fun _ _ _ h _ => h⟩
theorem Bt.trans {g B : Nat} {X Y Z : World} (h : Bt g B X Y) (k : Bt g B Y Z) : Bt g B X Z :=
  ⟨k.os.trans h.os, k.tape.trans h.tape, k.output.trans h.output, Nat.le_trans h.size k.size, fun i o hg hi ho => k.same i o hg (h.same i o hg hi ho) ho⟩
theorem Bt.of_nc {g B B' : Nat} {X Y : World} (h : Rf.NC B' X Y) (hB : B ≤ B') : Bt g B X Y := ⟨h.os, h.tape, h.output, h.size, fun i o _ hi ho => h.same i o hi (ho.imp id (fun h => by omega))⟩
theorem Bt.of_only {g B : Nat} {X Y : World} (h : Only g X Y) : Bt g B X Y :=
  ⟨h.os, h.tape, h.output, h.size, fun i o hg hi _ => (h.block i (Array.getElem?_eq_some_iff.1 hi).1 (fun e => hg (by cases e; rfl))).trans hi⟩
theorem Bt.cell {g B : Nat} {X Y : World} (h : Bt g B X Y) {p : Addr} {v : Value} (hp : p.block ≠ g) (hv : X.cell? p = some v) : Y.cell? p = some v := by
  obtain ⟨o, ho, hc⟩ := cells_of_cell hv
  exact (World.cell?_of_block ((h.same _ o hp ho (.inl hc)).trans ho.symm)).trans hv
theorem Bt.row {g B : Nat} {a b : World} (h : Bt g B a b) {o : Option Addr} {vs : List Value} {c : Nat} (hr : RowIs a o vs c) (hne : 0 < vs.length → ∀ p, o = some p → p.block ≠ g) : RowIs b o vs c :=
  ⟨hr.le, hr.cap, hr.nil, fun h0 => by
    obtain ⟨p, off, e, hlt, hc⟩ := hr.cells h0
    exact ⟨p, off, e, Nat.lt_of_lt_of_le hlt h.size, fun i v hv => h.cell (p := ⟨p, off + i, none⟩) (show p ≠ g from hne h0 _ e) (hc i v hv)⟩⟩
theorem Bt.boxed {g B k : Nat} {t : TypeId} {v : Value} {a b : World} (h : Bt g B a b) (ht : Boxed a k t v) (hne : k ≠ g) : Boxed b k t v := h.same k _ hne ht (.inl rfl)
theorem Bt.below {g B n : Nat} {X X' : World} (h : Bt g B X X') (hg : n ≤ g) (hn : n ≤ B) (hx : n ≤ X.heap.size) : Below n X X' :=
  ⟨h.os, h.tape, h.output, h.size, fun k hk => by
    have hlt : k < X.heap.size := by omega
    rw [Array.getElem?_eq_getElem hlt]
    exact h.same k _ (by omega) (Array.getElem?_eq_getElem hlt) (.inr (by omega))⟩
theorem boxed_later {k : Nat} {t : TypeId} {v : Value} {a b : World} (ht : Boxed a k t v) (h : Below a.heap.size a b) : Boxed b k t v := by
  unfold Boxed at *
  rw [h.block k (Array.getElem?_eq_some_iff.1 ht).1]; exact ht
theorem co_lt {ys : List UInt8} {i : Nat} (h : co ys i ≠ 0) : i < ys.length := by
  by_cases e : i < ys.length
  · exact e
  · exact absurd (co_ge (by omega)) h
/-- the product of the terms from place i on -/
def part (p q : List UInt8) (i : Nat) : List UInt8 := tab (fun k => Gf.sm (fun j => Gf.gm (co p (i + j)) (Gf.ps (i + j) (co q) k)) (p.length - i)) (p.length + q.length)
@[simp] theorem part_length (p q : List UInt8) (i : Nat) : (part p q i).length = p.length + q.length := by simp [part]
theorem co_part (p q : List UInt8) (i k : Nat) (h : k < p.length + q.length) : co (part p q i) k = Gf.sm (fun j => Gf.gm (co p (i + j)) (Gf.ps (i + j) (co q) k)) (p.length - i) := co_tab _ _ _ h
theorem part_start (p q : List UInt8) : part p q p.length = List.replicate (p.length + q.length) 0 := by
  refine list_ext (by simp) fun i hi => ?_
  rw [co_part _ _ _ _ (by simpa using hi), Nat.sub_self]
  show (0 : UInt8) = _
  simp [co, List.getD_eq_getElem?_getD, List.getElem?_replicate]
  split <;> rfl
theorem part_zero (p q : List UInt8) : part p q 0 = mulL p q := by
  refine list_ext (by simp [mulL]) fun i hi => ?_
  rw [co_part _ _ _ _ (by simpa using hi), co_mulL, Nat.sub_zero]
  exact Gf.sm_congr fun j _ => by rw [Nat.zero_add]
theorem part_succ (p q : List UInt8) (i k : Nat) (hi : i < p.length) (hk : k < p.length + q.length) : co (part p q i) k = Gf.gm (co p i) (Gf.ps i (co q) k) ^^^ co (part p q (i + 1)) k := by
  rw [co_part _ _ _ _ hk, co_part _ _ _ _ hk, show p.length - i = (p.length - (i + 1)) + 1 by omega, Gf.sm_left, Nat.add_zero]
  congr 1
  exact Gf.sm_congr fun j _ => by rw [show i + (j + 1) = i + 1 + j by omega]
theorem part_skip (p q : List UInt8) (i : Nat) (hi : i < p.length) (h : co p i = 0) : part p q i = part p q (i + 1) := by
  refine list_ext (by simp) fun k hk => ?_
  rw [part_succ p q i k hi (by simpa using hk), h, Gf.zero_gm, UInt8.zero_xor]
theorem part_mix (p q : List UInt8) (i : Nat) (hi : i < p.length) : mix (part p q (i + 1)) i q (co p i) = part p q i := by
  refine list_ext (by simp) fun k hk => ?_
  have hk2 : k < p.length + q.length := by simpa using hk
  rw [co_mix _ _ _ _ _ (by simpa using hk2), part_succ p q i k hi hk2, UInt8.xor_comm]
  congr 1
  unfold Gf.ps
  split
  · exact Gf.gm_comm _ _
  · rw [Gf.gm_zero]
end Go.Proofs.YtomkkkbdipcjgaaDoor
namespace Go.Proofs.YtomkkkbdipcjgaaDoor
open Go.RowKit
set_option linter.unusedVariables false
def AsAt (w : World) (ys z : List UInt8) (a : UInt8) (off g cap : Nat) (i : Value) (wr : World) : Prop :=
  ∃ k : Nat, k ≤ z.length ∧ i = .int .i64 k ∧ Buf wr g cap (mix ys off (z.take k) a) ∧ Only g w wr
theorem u8c (x y : UInt8) : bits .xor .u8 (x.toNat : Int) (y.toNat : Int) = ((x ^^^ y).toNat : Int) := by
  rw [u8_xor_nat _ _ (UInt8.toNat_lt x) (UInt8.toNat_lt y), UInt8.toNat_xor]
theorem dn_drew {w a : World} (h : Kit.Dn w a) : Kit.Dn w a.drew := h.add 1
end Go.Proofs.YtomkkkbdipcjgaaDoor
namespace Go.Proofs.YtomkkkbdipcjgaaDoor
open Go.RowKit
set_option linter.unusedVariables false
attribute [local go_sem] Oper.semAt_some
end Go.Proofs.YtomkkkbdipcjgaaDoor
namespace Go.Proofs.YtomkkkbdipcjgaaDoor
open Go.RowKit
set_option linter.unusedVariables false
attribute [local go_sem] Oper.semAt_some
end Go.Proofs.YtomkkkbdipcjgaaDoor
namespace Go.Proofs.YtomkkkbdipcjgaaDoor
open Go.RowKit
set_option linter.unusedVariables false
attribute [local go_sem] Oper.semAt_some
/-- the product of the first factors -/
def prodL (F : UInt8 → List UInt8) (z : List UInt8) : Nat → List UInt8
  | 0 => [1]
  | n + 1 => mulL (prodL F z n) (F (co z n))
theorem prodL_length (F : UInt8 → List UInt8) (z : List UInt8) (hF : ∀ x, (F x).length = 2) (n : Nat) : (prodL F z n).length = 1 + 2 * n := by
  induction n with
  | zero => rfl
  | succ n ih => simp [prodL, mulL, ih, hF]; omega
/-- the product so far lies where the variable in block b says -/
def SoFar (b B : Nat) (m : List UInt8) (X : World) : Prop := ∃ g cap, B ≤ g ∧ g ≠ b ∧ Boxed X b 36 (.slice (some ⟨g, 0, none⟩) (tr m).length cap) ∧ RowIs X (some ⟨g, 0, none⟩) (bytesV (tr m)) cap
theorem SoFar.nc {b B B' : Nat} {m : List UInt8} {X X' : World} (h : SoFar b B m X) (k : Rf.NC B' X X') : SoFar b B m X' := by
  obtain ⟨g, cap, h1, h2, h3, h4⟩ := h
  exact ⟨g, cap, h1, h2, k.cells h3, h4.nc k⟩
theorem row_cells {X : World} {A : Nat} {z : List UInt8} (h : X.heap[A]? = some (.cells (bytesV z).toArray 5 (0, 0))) (hm : z.length ≤ maxLen) : RowIs X (some ⟨A, 0, none⟩) (bytesV z) z.length :=
  ⟨by simp, hm, (fun e => by cases e), fun h0 => ⟨A, 0, rfl, (Array.getElem?_eq_some_iff.1 h).1, fun i v hv => by
    rw [Nat.zero_add]
    simp only [World.cell?, h]
    simpa using hv⟩⟩
theorem tr_one : tr [1] = [1] := by decide
/-- what an iterator over factors must do -/
def Factors (k : Nat) (F : UInt8 → List UInt8) (z : List UInt8) (o : Option Addr) (c Q : Nat) : Prop :=
  ∀ (l : Nat) (I : Nat → World → Prop) (B Bx : World → Prop) (w : World)
    (hI : ∀ i X, I i X → Boxed X Q 36 (.slice o z.length c) ∧ RowIs X o (bytesV z) c)
    (hA : ∀ i X ob, I i X → I i (X.alloc ob)) (hBk : ∀ X X', B X → KeepsOthers X X' → B X')
    (hturn : ∀ i A X, I i X → B X → i < z.length → X.heap[A]? = some (.cells (bytesV (F (co z i))).toArray 5 (0, 0)) →
      YieldAt Fence.wide 0 Tryd.prog l #[.slice (some ⟨A, 0, none⟩) 2 2] X fun e X' => (e = .returned (.bool true) ∧ I (i + 1) X' ∧ B X') ∨ (e = .returned (.bool false) ∧ Bx X'))
    (h0 : I 0 w) (hB : B w),
    Calls Tryd.prog k #[.func (.yield l) #[] #[], .pointer (some ⟨Q, 0, none⟩)] w fun e X => (∃ v, e = .returned v) ∧ ((I z.length X ∧ B X) ∨ Bx X)
end Go.Proofs.YtomkkkbdipcjgaaDoor
namespace Go.Proofs.YtomkkkbdipcjgaaDoor
open Go.RowKit
set_option linter.unusedVariables false
def HorAt (z : List UInt8) (x : UInt8) (w : World) (s i : Value) (wr : World) : Prop :=
  ∃ k : Nat, k ≤ z.length ∧ i = .int .i64 ((z.length : Int) - k - 1) ∧ s = .int .u8 ((Gf.horner (co z) x k (z.length - k)).toNat : Int) ∧ Kit.Dn w wr
end Go.Proofs.YtomkkkbdipcjgaaDoor
namespace Go.Proofs.YtomkkkbdipcjgaaDoor
open Go.RowKit
set_option linter.unusedVariables false
def Full (W : World) (g : Nat) (ys : List UInt8) : Prop := W.heap[g]? = some (.cells (bytesV ys).toArray 5 (0, 0))
theorem Full.buf {W : World} {g : Nat} {ys : List UInt8} (h : Full W g ys) (hm : ys.length ≤ maxLen) : Buf W g ys.length ys :=
  ⟨by simp, .inr ⟨g, ys.length, _, rfl, Nat.zero_le _, h, Nat.le_refl _, hm, by simp, by rw [Nat.mul_one]; exact List.take_of_length_le (by simp)⟩⟩
theorem Buf.full {W : World} {g n : Nat} {ys : List UInt8} (h : Buf W g n ys) (hn : n = ys.length) : Full W g ys := by
  subst hn
  obtain ⟨hl, hx⟩ := h
  rcases hx with ⟨h, _⟩ | ⟨g', cap', cur, h, _, hh, _, _, hcur, htake⟩
  · cases h
  · injection h with h1 h2 h3
    injection h1 with h1
    injection h1 with h1
    subst h1; subst h3
    unfold Full
    rw [hh]
    have e : cur = (bytesV ys).toArray := by
      apply Array.ext'
      rw [← htake, List.take_of_length_le (by simp [hcur])]
    rw [e]
theorem splice_bytes (ys z : List UInt8) (off : Nat) : splice (bytesV ys) off (bytesV z) = bytesV (splice ys off z) := by
  simp [splice, bytesV]
theorem co_splice (ys z : List UInt8) (off i : Nat) (h : off + z.length ≤ ys.length) : co (splice ys off z) i = if off ≤ i ∧ i < off + z.length then co z (i - off) else co ys i := by
  unfold splice co
  simp only [List.getD_eq_getElem?_getD]
  by_cases h1 : i < off
  · rw [if_neg (by omega), List.getElem?_append_left (by simp; omega), List.getElem?_take_of_lt h1]
  · rw [List.getElem?_append_right (by simp; omega)]
    have e : (ys.take off).length = off := by simp; omega
    rw [e]
    by_cases h2 : i < off + z.length
    · rw [if_pos ⟨by omega, h2⟩, List.getElem?_append_left (by omega)]
    · rw [if_neg (by omega), List.getElem?_append_right (by omega), List.getElem?_drop]
      congr 2; omega
theorem zeros_co (n i : Nat) : co (List.replicate n 0) i = 0 := by
  simp only [co, List.getD_eq_getElem?_getD, List.getElem?_replicate]
  split <;> rfl
end Go.Proofs.YtomkkkbdipcjgaaDoor
namespace Go.Proofs.YtomkkkbdipcjgaaDoor
open Go.RowKit
set_option linter.unusedVariables false
def AddAt (w0 : World) (g n : Nat) (ys q : List UInt8) (i : Value) (wr : World) : Prop :=
  ∃ k : Nat, k ≤ q.length ∧ i = .int .i64 k ∧ Buf wr g n (mix ys 0 (q.take k) 1) ∧ Only g w0 wr
end Go.Proofs.YtomkkkbdipcjgaaDoor
