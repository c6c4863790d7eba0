/- Mu -/
import Derived.Test.YtffheegeaghfjaaGreatDoorRg
import Derived.Test.YtffheegeaghfjaaGreatDoorSl
import Derived.Test.YtffheegeaghfjaaGreatDoorFwm
import Derived.Outline
import Derived.Deep.QuietTactic
import Derived.BigQuiet
import Derived.Deep.RegionHeld3
import Derived.Laws.CopyOwn
set_option linter.unusedVariables false
set_option linter.unusedSimpArgs false
set_option maxRecDepth 100000
set_option maxHeartbeats 8000000
namespace Go.Proofs.YtffheegeaghfjaaGreatDoor
open Go.RowKit Go.Shelf
theorem makes {P : Program} (fn : Fn) (first cap : Array Value) (w : World) : (Instr.makeFunc fn first cap).run P w = .ok (.func fn first cap) w := by kernel_rfl
theorem RowIs.nc {B : Nat} {X X' : World} {o : Option Addr} {vs : List Value} {c : Nat} (h : RowIs X o vs c) (k : Rf.NC B X X') : RowIs X' o vs c :=
 ⟨h.le, h.cap, h.nil, fun h0 => by
  obtain ⟨b, off, e, hlt, hc⟩ := h.cells h0
  exact ⟨b, off, e, Nat.lt_of_lt_of_le hlt k.size, fun i v hv => k.cell (hc i v hv)⟩⟩
theorem RowIs.uniq {X : World} {o : Option Addr} {a b : List UInt8} {c d : Nat} (h : RowIs X o (bytesV a) c) (k : RowIs X o (bytesV b) d) (hl : a.length = b.length) : a = b := by
 by_cases h0 : 0 < a.length
 ·obtain ⟨p, off, rfl, _, hc⟩ := h.cells (by simpa using h0)
  obtain ⟨p', off', e, _, kc⟩ := k.cells (by simp; omega)
  injection e with e
  injection e with e1 e2
  subst e1; subst e2
  refine list_ext hl fun i hi => ?_
  have h1 := hc i _ (bytesV_get a i hi)
  have h2 := kc i _ (bytesV_get b i (by omega))
  rw [h1] at h2
  have h3 : (((a.getD i 0).toNat : Int)) = ((b.getD i 0).toNat : Int) := by
   injection h2 with h2
   injection h2
  exact Gf.u8_ext (Int.ofNat.inj h3)
 ·rw [List.eq_nil_of_length_eq_zero (show a.length = 0 by omega), List.eq_nil_of_length_eq_zero (show b.length = 0 by omega)]
theorem terms_any (o : Option Addr) (n c : Nat) (w : World) :
    Calls Tryz.prog 171 #[.slice o n c] w fun e w' => e = .returned (.func (.func 181) #[] #[.pointer (some ⟨w.heap.size, 0, none⟩)]) /\ w' = w.alloc (.cells #[.slice o n c] 22) := by
 have hmf := @makes Tryz.prog
 go_enter Tryz.func171, Tryz.ntmps171
 go_wp2
 go_ret
 exact ⟨rfl, rfl⟩
attribute [local go_sem] Oper.semAt_some
theorem walk_any (l : Nat) (I : Nat -> World -> Prop) (B Bx : World -> Prop) (o : Option Addr) (n c Q : Nat) (w : World)
    (hI : ∀ i X, I i X -> X.cell? ⟨Q, 0, none⟩ = some (.slice o n c) /\ ∃ z : List UInt8, z.length = n /\ RowIs X o (bytesV z) c)
    (hskip : ∀ i X (z : List UInt8), I (i + 1) X -> i < n -> RowIs X o (bytesV z) c -> z.length = n -> co z i = 0 -> I i X)
    (hturn : ∀ i (b : UInt8) X, I (i + 1) X -> B X -> i < n -> (∃ z : List UInt8, z.length = n /\ RowIs X o (bytesV z) c /\ co z i = b) -> b ≠ 0 ->
      YieldAt Fence.wide 0 Tryz.prog l #[.int .i64 i, .int .u8 (b.toNat : Int)] X fun e X' => (e = .returned (.bool true) /\ I i X' /\ B X') ∨ (e = .returned (.bool false) /\ Bx X'))
    (h0 : I n w) (hB : B w) :
    Calls Tryz.prog 181 #[.func (.yield l) #[] #[], .pointer (some ⟨Q, 0, none⟩)] w fun e X => (∃ v, e = .returned v) /\ ((I 0 X /\ B X) ∨ Bx X) := by
 refine (callsIn_wide (n := 0)).1 (callsIn_of_wp Tryz.func181 rfl trivial ?_ rfl)
 simp only [Tryz.ntmps181, List.size_toArray, List.length_cons, List.length_nil, Nat.reduceAdd, Nat.reduceSub, Array.replicate_succ, Array.replicate_zero, List.push_toArray, List.append_toArray, List.nil_append, List.cons_append]
 obtain ⟨hq, z0, hz0, hr0⟩ := hI _ _ h0
 have hn : n <= 9223372036854775807 := by
  have h1 := hr0.le
  have h2 := hr0.cap
  simp only [bytesV_length] at h1
  unfold maxLen at h2
  omega
 clear hz0 hr0
 gi_wp2
 gi_loopw [3] (fun p wr => ∃ k : Nat, k <= n /\ p = .int .i64 ((k : Int) - 1) /\ I k wr /\ B wr) (fun p wr => (intOf p + 1).toNat)
 case atStart => exact ⟨n, Nat.le_refl _, by go_num, h0, hB⟩
 case round =>
  obtain ⟨k, hk, rfl, hi, hb⟩ := hrel
  obtain ⟨hq2, z, hz, hr⟩ := hI _ _ hi
  cases k with
  | zero =>
   gi_wp2
   go_end0
   exact ⟨⟨_, rfl⟩, .inl ⟨hi, hb⟩⟩
  | succ k =>
   have hm := hr.cap
   have hle := hr.le
   simp only [bytesV_length] at hle
   unfold maxLen at hm
   obtain ⟨b1, off1, rfl, hb1, hcell⟩ := hr.cells (by simp; omega)
   have hc1 : wr.cell? ⟨b1, off1 + k, none⟩ = some (.int .u8 ((co z k).toNat : Int)) := hcell k _ (bytesV_get z k (by omega))
   have hx := UInt8.toNat_lt (co z k)
   by_cases h0 : co z k = 0
   ·have hnext := hskip k wr z hi (by omega) hr hz h0
    rw [h0] at hc1
    gi_wp2
    refine ⟨fun _ h => (by cases h), ?_⟩
    gi_wp2
    go_roundw
    case rel => exact ⟨k, by omega, by go_num, hnext, hb⟩
    case measure => simp [intOf]
   ·have h00 : ¬ (co z k).toNat = 0 := fun e => h0 (Gf.u8_ext e)
    have t1 : (((co z k).toNat : Int) == 0) = false := by simpa using h00
    have t2 : (((co z k).toNat : Int) != 0) = true := by simp [bne, t1]
    obtain ⟨fn, tmps, assign, body, hy, hR⟩ := hturn k (co z k) wr hi hb (by omega) ⟨z, hz, hr, rfl⟩ h0
    gi_wp2
    refine ⟨rfl, hR.mono ?_⟩
    rintro e W3 (⟨rfl, hi3, hb3⟩ | ⟨rfl, hx3⟩)
    ·gi_wp2
     go_roundw
     case rel => exact ⟨k, by omega, by go_num, hi3, hb3⟩
     case measure => simp [intOf]
    ·gi_wp2
     refine bodyPost_ret (results_none rfl _ _ _) rfl ?_
     exact ⟨⟨_, rfl⟩, .inr hx3⟩
theorem deg_any (o : Option Addr) (z : List UInt8) (c : Nat) (w : World) (h : RowIs w o (bytesV z) c) :
    Calls Tryz.prog 179 #[.slice o z.length c] w fun e w' => e = .returned (.int .i64 ((tl z z.length : Int) - 1)) /\ Below w.heap.size w w' := by
 refine Rf.calls_marks Tryz.func179 rfl ?_
 simp only [Tryz.ntmps179, List.size_toArray, List.length_cons, List.length_nil, Nat.reduceAdd, Nat.reduceSub, Array.replicate_succ, Array.replicate_zero, List.push_toArray, List.append_toArray, List.nil_append, List.cons_append]
 go_wp2_with fail
 refine (terms_any o z.length c _).mono ?_; rintro e w1 ⟨rfl, hw1⟩
 go_wp2_with fail
 have hb0 : Below w.heap.size w w1 := by rw [hw1]; exact ((Below.refl _ w).alloc (Nat.le_refl _) _).alloc (by simp) _
 have hc0 : w1.cell? ⟨w.heap.size, 0, none⟩ = some (.int .i64 0) := by rw [hw1]; simp
 have hf0 : w1.frozen? ⟨w.heap.size, 0, none⟩ = false := by rw [hw1]; simp
 have hq0 : w1.cell? ⟨w.heap.size + 1, 0, none⟩ = some (.slice o z.length c) := by rw [hw1]; simp
 have hs0 : w1.heap.size = w.heap.size + 2 := by rw [hw1]; simp
 rw [<- hw1]
 refine Rf.range_told (α := Nat × UInt8) (σ := Nat) rfl (enters_of Tryz.func181 (by kernel_rfl) rfl) (fun x => #[.int .i64 x.1, .int .u8 (x.2.toNat : Int)]) (fun _ => rfl)
  (fun i X => tl z z.length <= i /\ i <= z.length /\ w1.heap.size <= X.heap.size /\ Rf.NC w1.heap.size w1 X)
  (fun c X => c = .ret /\ X.cell? ⟨w.heap.size, 0, none⟩ = some (.int .i64 ((tl z z.length : Int) - 1)) /\ tl z z.length ≠ 0 /\ Below w.heap.size w X)
  (fun s x s' X => tl z z.length = s /\ s = x.1 + 1)
  z.length (fun s => tl z z.length = 0) ?hI ?hIx ?hV ?h0 ?hseq
  ?round ?done ?stop
 case hI => exact fun s X X' h k => ⟨h.1, h.2.1, Nat.le_trans h.2.2.1 k.size, h.2.2.2.trans k⟩
 case hIx => exact fun c X X' h k => ⟨h.1, k.cell h.2.1, h.2.2.1, h.2.2.2.trans (k.below (by omega) h.2.2.2.size)⟩
 case hV => exact fun s x s' X X' h k => h
 case h0 => exact ⟨tl_le _ _, Nat.le_refl _, Nat.le_refl _, Rf.NC.refl _ _⟩
 case round =>
  rintro l s x s' X Z To ⟨h1, h2, h3, h4⟩ ⟨h5, h6⟩ HN HR HE
  have hc := h4.cell hc0
  have hf := (h4.frozen hc0).trans hf0
  gi_wp2
  refine HR.out _ _ (KeepsOthers.setCell _ _ _) ⟨by trivial, ?_, by omega, ?_⟩
  ·rw [World.cell?_setCell_same' _ _ _ (by rw [hc]; rfl), h5, h6]
   exact congrArg some (by go_num)
  ·exact (hb0.trans (h4.below (by omega) (by omega) : Below w.heap.size w1 X)).setCell (p := ⟨w.heap.size, 0, none⟩) (Nat.le_refl _) _
 case done =>
  rintro D s X hD hE ⟨h1, h2, h3, h4⟩ hK
  have hc := h4.cell hc0
  have hf := (h4.frozen hc0).trans hf0
  go_wp2
  have hK' := (KeepsOthers.setCell X ⟨w.heap.size, 0, none⟩ (.int .i64 (-1))).same D _ hK rfl
  refine Rf.leaves (v := .int .i64 (-1)) hK' ?_ ?_
  ·have hc5 := cell_kept (World.cell?_setCell_same' X ⟨w.heap.size, 0, none⟩ (.int .i64 (-1)) (by rw [hc]; rfl)) (grownBy_putObj' _ D (.deferred none)) (fun r e => by cases e; exact ⟨_, hK', rfl⟩)
   simp [results, Tryz.f179, go_sem, hc5]
  ·have hb1 : Below w.heap.size w X := hb0.trans (h4.below (by omega) (by omega))
   refine ⟨by rw [hE]; rfl, (hb1.setCell (p := ⟨w.heap.size, 0, none⟩) (Nat.le_refl _) _).trans (belowK_b (w := w) (Nat.le_refl _) _ D _ _ (by omega) hK' rfl rfl)⟩
 case stop =>
  rintro D c X hD ⟨rfl, hc, h0, hb⟩ hK
  go_wp2
  refine Rf.leaves (v := .int .i64 ((tl z z.length : Int) - 1)) hK ?_ ?_
  ·have hc5 := cell_kept hc (grownBy_putObj' X D (.deferred none)) (fun r e => by cases e; exact ⟨_, hK, rfl⟩)
   simp [results, Tryz.f179, go_sem, hc5]
  ·exact ⟨rfl, hb.trans (belowK_b (w := w) (Nat.le_refl _) X D _ _ (by omega) hK rfl rfl)⟩
 case hseq =>
  have hr1 := h.later hb0
  intro l B Bx X hnc hi hB hk ht
  refine (walk_any l (fun i X => tl z z.length <= i /\ i <= z.length /\ w1.heap.size <= X.heap.size /\ Rf.NC w1.heap.size w1 X) B Bx o z.length c (w.heap.size + 1) X ?_ ?_ ?_ hi hB).mono ?_
  ·exact fun i X h => ⟨h.2.2.2.cell hq0, z, rfl, hr1.nc h.2.2.2⟩
  ·rintro i X z' ⟨h1, h2, h3, h4⟩ hlt hr hl h0
   obtain rfl := RowIs.uniq (hr1.nc h4) hr hl.symm
   refine ⟨?_, by omega, h3, h4⟩
   have := tl_top z z.length
   by_cases e : tl z z.length = i + 1
   ·rw [e] at this
    exact absurd h0 (this (by omega))
   ·omega
  ·rintro i b X hI hB hlt ⟨z', hl, hr, rfl⟩ hb
   obtain ⟨h1, h2, h3, h4⟩ := hI
   obtain rfl := RowIs.uniq (hr1.nc h4) hr hl.symm
   have e : tl z z.length = i + 1 := by
    by_cases e : tl z z.length <= i
    ·exact absurd (tl_zero z z.length i e hlt) hb
    ·omega
   exact ht (i + 1) (i, co z i) i X ⟨h1, h2, h3, h4⟩ hB ⟨e, rfl⟩
  ·rintro e X' ⟨hv, (⟨h, hB⟩ | hx)⟩
   ·exact ⟨hv, .inl ⟨0, by omega, h, hB⟩⟩
   ·exact ⟨hv, .inr hx⟩
theorem RowIs.take {W : World} {o : Option Addr} {z : List UInt8} {c : Nat} (h : RowIs W o (bytesV z) c) (n : Nat) : RowIs W o (bytesV (z.take n)) c :=
 ⟨by have := h.le; simp at *; omega, h.cap, h.nil, fun h0 => by
  obtain ⟨b, off, e, hlt, hc⟩ := h.cells (by simp at *; omega)
  refine ⟨b, off, e, hlt, fun i v hv => hc i v ?_⟩
  have hi := (List.getElem?_eq_some_iff.1 hv).1
  simp only [bytesV_length, List.length_take] at hi
  rw [<- hv]
  unfold bytesV
  rw [List.map_take, List.getElem?_take_of_lt (by omega)]⟩
theorem cut_any (o : Option Addr) (z : List UInt8) (c : Nat) (w : World) (h : RowIs w o (bytesV z) c) :
    Calls Tryz.prog 168 #[.slice o z.length c] w fun e w' => e = .returned (.slice o (tr z).length c) /\ Below w.heap.size w w' /\ RowIs w' o (bytesV (tr z)) c := by
 have hm := h.cap
 have hle := h.le
 simp only [bytesV_length] at hle
 unfold maxLen at hm
 have ht := tl_le z z.length
 have HL := Lh (tr_length z)
 have HR := Lh h
 clear h
 have hd := deg_any o z c w HR.out
 generalize tl z z.length = m at *
 have HD := Lh hd
 clear hd
 go_enter Tryz.func168, Tryz.ntmps168
 go_wp2_with fail
 refine HD.out.mono ?_; rintro e w1 ⟨rfl, hb⟩
 have HB := Lh hb
 clear hb
 go_wp2_with fail
 go_ret
 exact ⟨by rw [HL.out]; rfl, HB.out, (HR.out.later HB.out).take _⟩
end Go.Proofs.YtffheegeaghfjaaGreatDoor
namespace Go.Proofs.YtffheegeaghfjaaGreatDoor
open Go.RowKit
def Buf (W : World) (g cap : Nat) (ys : List UInt8) : Prop := W.ownsRow 0 5 1 (.slice (some ⟨g, 0, none⟩) ys.length cap) ys.length (bytesV ys)
theorem Buf.lt {W : World} {g cap : Nat} {ys : List UInt8} (h : Buf W g cap ys) : g < W.heap.size := (World.ownsRow.lt h g rfl).2
theorem Buf.le {W : World} {g cap : Nat} {ys : List UInt8} (h : Buf W g cap ys) : ys.length <= cap /\ cap <= maxLen := by
 obtain ⟨hl, hx⟩ := h
 rcases hx with ⟨h, _⟩ | ⟨g', cap', cur, h, _, hh, h1, h2, hcur, htake⟩
 ·cases h
 ·injection h with _ _ h3
  subst h3
  exact ⟨h1, h2⟩
theorem Buf.later {W W' : World} {g cap : Nat} {ys : List UInt8} (h : Buf W g cap ys) (hb : Below W.heap.size W W') : Buf W' g cap ys := by
 have hlt := h.lt
 obtain ⟨hl, hx⟩ := h
 refine ⟨hl, ?_⟩
 rcases hx with hx | ⟨g', cap', cur, h, h0, hh, h4⟩
 ·exact .inl hx
 ·injection h with h1 h2 h3
  injection h1 with h1
  injection h1 with h1
  subst h1
  exact .inr ⟨g, cap', cur, by rw [h3], h0, by rw [hb.block g hlt]; exact hh, h4⟩
theorem Buf.nc {B : Nat} {X X' : World} {g cap : Nat} {ys : List UInt8} (h : Buf X g cap ys) (k : Rf.NC B X X') : Buf X' g cap ys := k.owns h
theorem Buf.cells {W : World} {g cap : Nat} {ys : List UInt8} (h : Buf W g cap ys) : ∃ cur, W.heap[g]? = some (.cells cur 5 (0, 0)) := by
 obtain ⟨hl, hx⟩ := h
 rcases hx with ⟨h, _⟩ | ⟨g', cap', cur, h, _, hh, h1, h2, hcur, htake⟩
 ·cases h
 ·injection h with h1 _ _
  injection h1 with h1
  injection h1 with h1
  subst h1
  exact ⟨cur, hh⟩
theorem Buf.cell {W : World} {g cap : Nat} {ys : List UInt8} (h : Buf W g cap ys) (i : Nat) (hi : i < ys.length) : W.cell? ⟨g, i, none⟩ = some (.int .u8 ((co ys i).toNat : Int)) := by
 have := World.ownsRow.cellAt h i (by omega)
 rw [this]
 exact bytesV_get ys i hi
theorem Buf.frozen {W : World} {g cap : Nat} {ys : List UInt8} (h : Buf W g cap ys) (i : Nat) : W.frozen? ⟨g, i, none⟩ = false := World.ownsRow.frozenAt h i
theorem bytesV_set (ys : List UInt8) (i : Nat) (b : UInt8) : (bytesV ys).set i (.int .u8 (b.toNat : Int)) = bytesV (ys.set i b) := by
 simp [bytesV, List.map_set]
theorem Buf.store {W : World} {g cap : Nat} {ys : List UInt8} (h : Buf W g cap ys) (i : Nat) (b : UInt8) :
    Buf (W.setCell ⟨g, i, none⟩ (.int .u8 (b.toNat : Int))) g cap (ys.set i b) /\ W.grownBy (W.setCell ⟨g, i, none⟩ (.int .u8 (b.toNat : Int))) (some g) := by
 have := World.ownsRow.stored h i (.int .u8 (b.toNat : Int))
 refine ⟨?_, this.2⟩
 have h1 := this.1
 rw [bytesV_set] at h1
 unfold Buf
 rw [List.length_set]
 exact h1
theorem Buf.row {W : World} {g cap : Nat} {ys : List UInt8} (h : Buf W g cap ys) : RowIs W (some ⟨g, 0, none⟩) (bytesV ys) cap :=
 ⟨by have := h.le; simp; omega, h.le.2, (fun e => by cases e), fun h0 => ⟨g, 0, rfl, h.lt, fun i v hv => by
  have hi := (List.getElem?_eq_some_iff.1 hv).1
  rw [Nat.zero_add, World.ownsRow.cellAt h i (by simp at hi; omega)]
  exact hv⟩⟩
def Only (g : Nat) (W W' : World) : Prop := W.grownBy W' (some g)
theorem Only.refl (g : Nat) (W : World) : Only g W W := ⟨rfl, rfl, rfl, Nat.le_refl _, fun _ _ _ => rfl⟩
theorem Only.trans {g : Nat} {a b c : World} (h : Only g a b) (k : Only g b c) : Only g a c :=
 ⟨k.os.trans h.os, k.tape.trans h.tape, k.output.trans h.output, Nat.le_trans h.size k.size, fun i hi hn => (k.block i (Nat.lt_of_lt_of_le hi h.size) hn).trans (h.block i hi hn)⟩
theorem Only.of_below {g : Nat} {a b : World} (h : Below a.heap.size a b) : Only g a b := ⟨h.os, h.tape, h.output, h.size, fun i hi _ => h.block i hi⟩
theorem Only.below {g n : Nat} {a b : World} (h : Only g a b) (hg : n <= g) (hn : n <= a.heap.size) : Below n a b := (Below.refl n a).grown h hn (fun k e => by cases e; exact hg)
theorem Only.keeps {g cap : Nat} {ys : List UInt8} {a b : World} (h : Only g a b) (hb : Buf a g cap ys) : KeepsOthers a b := by
 obtain ⟨cur, hc⟩ := hb.cells
 refine KeepsOthers.of_grownBy h (fun j o e hj => ?_)
 cases e
 rw [hc] at hj
 cases hj
 rfl
theorem Only.cell {g : Nat} {a b : World} (h : Only g a b) {p : Addr} {v : Value} (hp : p.block ≠ g) (hv : a.cell? p = some v) : b.cell? p = some v := World.grownBy.cell h hv (fun e => hp (by cases e; rfl))
theorem RowIs.apart {w : World} {o : Option Addr} {vs : List Value} {c : Nat} (hr : RowIs w o vs c) {g : Nat} (hg : w.heap.size <= g) : 0 < vs.length -> ∀ p, o = some p -> p.block ≠ g := fun h0 p e => by
 obtain ⟨b, off, e2, hlt, _⟩ := hr.cells h0
 rw [e] at e2
 cases e2
 show b ≠ g
 omega
theorem Only.row {g : Nat} {a b : World} (h : Only g a b) {o : Option Addr} {vs : List Value} {c : Nat} (hr : RowIs a o vs c) (hne : 0 < vs.length -> ∀ p, o = some p -> p.block ≠ g) : RowIs b o vs c :=
 ⟨hr.le, hr.cap, hr.nil, fun h0 => by
  obtain ⟨p, off, e, hlt, hc⟩ := hr.cells h0
  exact ⟨p, off, e, Nat.lt_of_lt_of_le hlt h.size, fun i v hv => h.cell (p := ⟨p, off + i, none⟩) (show p ≠ g from hne h0 _ e) (hc i v hv)⟩⟩
theorem Only.tab {g T : Nat} {C : Array Value} {a b : World} (h : Only g a b) (ht : TabAt a T C) (hne : T ≠ g) : TabAt b T C :=
 ⟨by rw [h.block T (aE.1 ht.block).1 (fun e => hne (by cases e; rfl))]; exact ht.block, ht.tab⟩
theorem keeps_below {a b : World} (h : Below a.heap.size a b) : KeepsOthers a b :=
 ⟨h.size, fun k o hk _ => by rw [h.block k (aE.1 hk).1]; exact hk⟩
theorem co_set (ys : List UInt8) (i j : Nat) (b : UInt8) : co (ys.set i b) j = if i = j /\ i < ys.length then b else co ys j := by
 unfold co
 rw [List.getD_eq_getElem?_getD, List.getD_eq_getElem?_getD, List.getElem?_set]
 by_cases e : i = j
 ·subst e
  by_cases h : i < ys.length
  ·simp [h]
  ·simp [h]
 ·simp [e]
def mix (ys : List UInt8) (off : Nat) (z : List UInt8) (a : UInt8) : List UInt8 := tab (fun i => co ys i ^^^ Gf.ps off (fun j => Gf.gm (co z j) a) i) ys.length
@[simp] theorem mix_length (ys : List UInt8) (off : Nat) (z : List UInt8) (a : UInt8) : (mix ys off z a).length = ys.length := by simp [mix]
theorem co_mix (ys : List UInt8) (off : Nat) (z : List UInt8) (a : UInt8) (i : Nat) (h : i < ys.length) : co (mix ys off z a) i = co ys i ^^^ Gf.ps off (fun j => Gf.gm (co z j) a) i := co_tab _ _ _ h
theorem mix_zero (ys : List UInt8) (off : Nat) (z : List UInt8) (a : UInt8) : mix ys off (z.take 0) a = ys := by
 refine list_ext (by simp) fun i hi => ?_
 rw [co_mix _ _ _ _ _ (by simpa using hi)]
 unfold Gf.ps
 split
 ·show co ys i ^^^ Gf.gm (co (z.take 0) (i - off)) a = _
  rw [co_take, if_neg (by omega), Gf.zero_gm, UInt8.xor_zero]
 ·rw [UInt8.xor_zero]
theorem mix_step (ys : List UInt8) (off : Nat) (z : List UInt8) (a : UInt8) (k : Nat) (hk : k < z.length) (hl : off + z.length <= ys.length) :
    (mix ys off (z.take k) a).set (off + k) (co (mix ys off (z.take k) a) (off + k) ^^^ Gf.gm (co z k) a) = mix ys off (z.take (k + 1)) a := by
 refine list_ext (by simp) fun i hi => ?_
 have hi2 : i < ys.length := by simpa using hi
 rw [co_set, co_mix _ _ _ _ i hi2, co_mix _ _ _ _ i hi2, co_mix _ _ _ _ (off + k) (by omega)]
 by_cases e : off + k = i
 ·subst e
  rw [if_pos ⟨rfl, by simp; omega⟩]
  unfold Gf.ps
  rw [if_pos (by omega), if_pos (by omega), Nat.add_sub_cancel_left]
  dsimp only
  rw [co_take, co_take, if_neg (by omega), if_pos (by omega), Gf.zero_gm, UInt8.xor_zero]
 ·rw [if_neg (fun h => e h.1)]
  unfold Gf.ps
  split
  ·dsimp only
   rw [co_take, co_take]
   by_cases h2 : i - off < k
   ·rw [if_pos h2, if_pos (by omega)]
   ·rw [if_neg h2, if_neg (by omega)]
  ·rfl
theorem buf_made {W : World} {g n : Nat} (h : W.ownsRow 0 5 1 (.slice (some ⟨g, 0, none⟩) n n) n (madeCells #[.int .u8 0] n).toList) : Buf W g n (List.replicate n 0) := by
 unfold Buf
 have e : (madeCells #[.int .u8 0] n).toList = bytesV (List.replicate n 0) := by
  rw [toList_madeCells_one]
  simp [bytesV]
 rw [e] at h
 rw [List.length_replicate]
 exact h
structure Bt (g B : Nat) (X X' : World) : Prop where
 os : X'.os = X.os
 tape : X'.tape = X.tape
 output : X'.output = X.output
 size : X.heap.size <= X'.heap.size
 same : ∀ k o, k ≠ g -> X.heap[k]? = some o -> o.isCells = true ∨ k < B -> X'.heap[k]? = some o
theorem Bt.refl (g B : Nat) (X : World) : Bt g B X X := ⟨rfl, rfl, rfl, Nat.le_refl _, fun _ _ _ h _ => h⟩
theorem Bt.trans {g B : Nat} {X Y Z : World} (h : Bt g B X Y) (k : Bt g B Y Z) : Bt g B X Z :=
 ⟨k.os.trans h.os, k.tape.trans h.tape, k.output.trans h.output, Nat.le_trans h.size k.size, fun i o hg hi ho => k.same i o hg (h.same i o hg hi ho) ho⟩
theorem Bt.of_nc {g B B' : Nat} {X Y : World} (h : Rf.NC B' X Y) (hB : B <= B') : Bt g B X Y := ⟨h.os, h.tape, h.output, h.size, fun i o _ hi ho => h.same i o hi (ho.imp id (fun h => by omega))⟩
theorem Bt.of_only {g B : Nat} {X Y : World} (h : Only g X Y) : Bt g B X Y :=
 ⟨h.os, h.tape, h.output, h.size, fun i o hg hi _ => (h.block i (aE.1 hi).1 (fun e => hg (by cases e; rfl))).trans hi⟩
theorem Bt.cell {g B : Nat} {X Y : World} (h : Bt g B X Y) {p : Addr} {v : Value} (hp : p.block ≠ g) (hv : X.cell? p = some v) : Y.cell? p = some v := by
 obtain ⟨o, ho, hc⟩ := cells_of_cell hv
 exact (World.cell?_of_block ((h.same _ o hp ho (.inl hc)).trans ho.symm)).trans hv
theorem Bt.row {g B : Nat} {a b : World} (h : Bt g B a b) {o : Option Addr} {vs : List Value} {c : Nat} (hr : RowIs a o vs c) (hne : 0 < vs.length -> ∀ p, o = some p -> p.block ≠ g) : RowIs b o vs c :=
 ⟨hr.le, hr.cap, hr.nil, fun h0 => by
  obtain ⟨p, off, e, hlt, hc⟩ := hr.cells h0
  exact ⟨p, off, e, Nat.lt_of_lt_of_le hlt h.size, fun i v hv => h.cell (p := ⟨p, off + i, none⟩) (show p ≠ g from hne h0 _ e) (hc i v hv)⟩⟩
theorem Bt.tab {g B T : Nat} {C : Array Value} {a b : World} (h : Bt g B a b) (ht : TabAt a T C) (hne : T ≠ g) : TabAt b T C := ⟨h.same T _ hne ht.block (.inl rfl), ht.tab⟩
theorem Bt.boxed {g B k : Nat} {t : TypeId} {v : Value} {a b : World} (h : Bt g B a b) (ht : Boxed a k t v) (hne : k ≠ g) : Boxed b k t v := h.same k _ hne ht (.inl rfl)
theorem Bt.below {g B n : Nat} {X X' : World} (h : Bt g B X X') (hg : n <= g) (hn : n <= B) (hx : n <= X.heap.size) : Below n X X' :=
 ⟨h.os, h.tape, h.output, h.size, fun k hk => by
  have hlt : k < X.heap.size := by omega
  rw [Array.getElem?_eq_getElem hlt]
  exact h.same k _ (by omega) (Array.getElem?_eq_getElem hlt) (.inr (by omega))⟩
theorem boxed_later {k : Nat} {t : TypeId} {v : Value} {a b : World} (ht : Boxed a k t v) (h : Below a.heap.size a b) : Boxed b k t v := by
 unfold Boxed at *
 rw [h.block k (aE.1 ht).1]; exact ht
def part (p q : List UInt8) (i : Nat) : List UInt8 := tab (fun k => Gf.sm (fun j => Gf.gm (co p (i + j)) (Gf.ps (i + j) (co q) k)) (p.length - i)) (p.length + q.length)
@[simp] theorem part_length (p q : List UInt8) (i : Nat) : (part p q i).length = p.length + q.length := by simp [part]
theorem co_part (p q : List UInt8) (i k : Nat) (h : k < p.length + q.length) : co (part p q i) k = Gf.sm (fun j => Gf.gm (co p (i + j)) (Gf.ps (i + j) (co q) k)) (p.length - i) := co_tab _ _ _ h
theorem part_start (p q : List UInt8) : part p q p.length = List.replicate (p.length + q.length) 0 := by
 refine list_ext (by simp) fun i hi => ?_
 rw [co_part _ _ _ _ (by simpa using hi), Nat.sub_self]
 show (0 : UInt8) = _
 simp [co, List.getD_eq_getElem?_getD, List.getElem?_replicate]
 split <;> rfl
theorem part_zero (p q : List UInt8) : part p q 0 = mulL p q := by
 refine list_ext (by simp [mulL]) fun i hi => ?_
 rw [co_part _ _ _ _ (by simpa using hi), co_mulL, Nat.sub_zero]
 exact Gf.sm_congr fun j _ => by rw [Nat.zero_add]
theorem part_succ (p q : List UInt8) (i k : Nat) (hi : i < p.length) (hk : k < p.length + q.length) : co (part p q i) k = Gf.gm (co p i) (Gf.ps i (co q) k) ^^^ co (part p q (i + 1)) k := by
 rw [co_part _ _ _ _ hk, co_part _ _ _ _ hk, show p.length - i = (p.length - (i + 1)) + 1 by omega, Gf.sm_left, Nat.add_zero]
 congr 1
 exact Gf.sm_congr fun j _ => by rw [show i + (j + 1) = i + 1 + j by omega]
theorem part_skip (p q : List UInt8) (i : Nat) (hi : i < p.length) (h : co p i = 0) : part p q i = part p q (i + 1) := by
 refine list_ext (by simp) fun k hk => ?_
 rw [part_succ p q i k hi (by simpa using hk), h, Gf.zero_gm, UInt8.zero_xor]
theorem part_mix (p q : List UInt8) (i : Nat) (hi : i < p.length) : mix (part p q (i + 1)) i q (co p i) = part p q i := by
 refine list_ext (by simp) fun k hk => ?_
 have hk2 : k < p.length + q.length := by simpa using hk
 rw [co_mix _ _ _ _ _ (by simpa using hk2), part_succ p q i k hi hk2, UInt8.xor_comm]
 congr 1
 unfold Gf.ps
 split
 ·exact Gf.gm_comm _ _
 ·rw [Gf.gm_zero]
def AsAt (w : World) (ys z : List UInt8) (a : UInt8) (off g cap : Nat) (i : Value) (wr : World) : Prop :=
 ∃ k : Nat, k <= z.length /\ i = .int .i64 k /\ Buf wr g cap (mix ys off (z.take k) a) /\ Only g w wr
theorem dn_drew {w a : World} (h : Kit.Dn w a) : Kit.Dn w a.drew := h.add 1
theorem addScaled_any (ys z : List UInt8) (a : UInt8) (off g cap T : Nat) (C : Array Value) (o : Option Addr) (c : Nat) (w : World)
    (hB : Buf w g cap ys) (hR : RowIs w o (bytesV z) c) (hT : TabAt w T C) (hTg : T ≠ g) (hne : 0 < (bytesV z).length -> ∀ p, o = some p -> p.block ≠ g) (hl : off + z.length <= ys.length) (m d : Nat) (hm : z.length <= m) (hd : m <= d) (hdm : d <= maxLen) :
    Calls Tryz.prog 173 #[.pointer (some ⟨T, 0, none⟩), .slice (some ⟨g, off, none⟩) m d, .slice o z.length c, .int .u8 (a.toNat : Int)] w fun e w' => (∃ v, e = .returned v) /\ Buf w' g cap (mix ys off z a) /\ Only g w w' := by
 have h1 := hR.le
 have h2 := hR.cap
 simp only [bytesV_length] at h1
 unfold maxLen at h2 hdm
 have hle := hB.le
 unfold maxLen at hle
 have H0 : Hid (z.take z.length = z) := Lh (List.take_length)
 have HB0 : Hid (Buf w g cap (mix ys off (z.take 0) a)) := Lh (by rw [mix_zero]; exact hB)
 have HR := Lh hR
 have HT := Lh hT
 have HN := Lh hne
 clear hB hR hT hne
 go_enter Tryz.func173, Tryz.ntmps173
 go_wp2
 go_loopw [8, 9, 12] (fun _ _ i wr => AsAt w ys z a off g cap i wr) (fun _ _ i _ => z.length - (intOf i).toNat)
 case atStart => exact ⟨0, Nat.zero_le _, rfl, HB0.out, Only.refl _ _⟩
 case round =>
  obtain ⟨k, hk, rfl, hb, ho⟩ := hrel
  by_cases hlt : k < z.length
  ·have hr := ho.row HR.out HN.out
   obtain ⟨b1, off1, rfl, hb1, hcell⟩ := hr.cells (by simp; omega)
   have hc1 : wr.cell? ⟨b1, off1 + k, none⟩ = some (.int .u8 ((co z k).toNat : Int)) := hcell k _ (bytesV_get z k hlt)
   have hc2 := hb.cell (off + k) (by simp; omega)
   have hf2 := hb.frozen (off + k)
   have HMX := Lh (mix_step ys off z a k hlt hl)
   have mc : ∀ v : World, TabAt v T C -> Calls Tryz.prog 183 #[.pointer (some ⟨T, 0, none⟩), .int .u8 ((co z k).toNat : Int), .int .u8 (a.toNat : Int)] v fun e w' => e = .returned (.int .u8 ((Gf.gm (co z k) a).toNat : Int)) /\ ∃ n, w' = v.drewN n := by
    intro v hv
    rw [Gf.gm_nat]
    exact tmul_any _ _ (UInt8.toNat_lt _) (UInt8.toNat_lt _) T C v hv
   have ac : ∀ v : World, Calls Tryz.prog 182 #[.int .u8 ((co (mix ys off (z.take k) a) (off + k)).toNat : Int), .int .u8 ((Gf.gm (co z k) a).toNat : Int)] v fun e w' => e = .returned (.int .u8 ((co (mix ys off (z.take k) a) (off + k) ^^^ Gf.gm (co z k) a).toNat : Int)) /\ v = w' := by
    intro v
    rw [UInt8.toNat_xor]
    exact add_any _ _ (UInt8.toNat_lt _) (UInt8.toNat_lt _) v
   have HTW := Lh (ho.tab HT.out hTg)
   generalize co (mix ys off (z.take k) a) (off + k) = s at *
   generalize Gf.gm (co z k) a = t at *
   generalize s ^^^ t = r at *
   generalize co z k = x at *
   have hx := UInt8.toNat_lt x
   have hs := UInt8.toNat_lt s
   have ha := UInt8.toNat_lt a
   have HB := Lh hb
   have HO := Lh ho
   have MC := Lh mc
   have AC := Lh ac
   clear hcell hb ho mc ac hr
   have hi0 : (0 : Int) <= (k : Int) := by omega
   have hi1 : (k : Int) < (m : Int) := by omega
   go_wp2
   go_region_with (first | (go_at_call 183; refine (MC.out _ (HTW.out.later (dn_drew (Kit.Dn.refl _)).below)).mono ?_; rintro e w' ⟨rfl, n', rfl⟩) | (go_at_call 182; refine (AC.out _).mono ?_; rintro e w' ⟨rfl, rfl⟩))
   all_goals
    go_wp2
    go_roundw
    case rel =>
     have hs := (HB.out.later (Kit.dn' wr (1 + n'))).store (off + k) r
     exact ⟨k + 1, by omega, by go_num, by rw [<- HMX.out]; exact hs.1, HO.out.trans ((Only.of_below (Kit.dn' wr (1 + n'))).trans hs.2)⟩
    case measure => simp [intOf]; omega
  ·obtain rfl : k = z.length := by omega
   rw [H0.out] at hb
   go_wp2
   go_end0
   exact ⟨⟨_, rfl⟩, hb, ho⟩
attribute [local go_sem] Oper.semAt_some
theorem multiply_any (p q : List UInt8) (o o2 : Option Addr) (c c2 T : Nat) (C : Array Value) (w : World)
    (hP : RowIs w o (bytesV p) c) (hQ : RowIs w o2 (bytesV q) c2) (hT : TabAt w T C) (hl : p.length + q.length <= 1000000) :
    Calls Tryz.prog 190 #[.pointer (some ⟨T, 0, none⟩), .slice o p.length c, .slice o2 q.length c2] w fun e w' => ∃ g cap, e = .returned (.slice (some ⟨g, 0, none⟩) (tr (mulL p q)).length cap) /\ w.heap.size <= g /\ Below w.heap.size w w' /\ RowIs w' (some ⟨g, 0, none⟩) (bytesV (tr (mulL p q))) cap := by
 have h1 := hP.le
 have h2 := hP.cap
 have h3 := hQ.le
 have h4 := hQ.cap
 simp only [bytesV_length] at h1 h3
 unfold maxLen at h2 h4
 have HP := Lh hP
 have HQ := Lh hQ
 have HT := Lh hT
 clear hP hQ hT
 refine Rf.calls_marks Tryz.func190 rfl ?_
 simp only [Tryz.ntmps190, List.size_toArray, List.length_cons, List.length_nil, Nat.reduceAdd, Nat.reduceSub, Array.replicate_succ, Array.replicate_zero, List.push_toArray, List.append_toArray, List.nil_append, List.cons_append]
 go_wp2_with fail
 obtain ⟨w0, hw0⟩ : ∃ w0, (w.alloc (.cells #[.pointer (some ⟨T, 0, none⟩)] 236)).alloc (.cells #[.slice o2 q.length c2] 22) = w0 := ⟨_, rfl⟩
 have hb0 : Below w.heap.size w w0 := by rw [<- hw0]; exact ((Below.refl _ w).alloc (Nat.le_refl _) _).alloc (by simp) _
 have hx1 : Boxed w0 w.heap.size 236 (.pointer (some ⟨T, 0, none⟩)) := by rw [<- hw0]; exact (Boxed.new w _ _).alloc _
 have hx2 : Boxed w0 (w.heap.size + 1) 22 (.slice o2 q.length c2) := by
  rw [<- hw0]
  have := Boxed.new (w.alloc (.cells #[.pointer (some ⟨T, 0, none⟩)] 236)) 22 (.slice o2 q.length c2)
  rwa [World.size_alloc] at this
 have hs0 : w0.heap.size = w.heap.size + 2 := by rw [<- hw0]; simp
 rw [hw0]
 have HB0 := Lh hb0
 have HX1 := Lh hx1
 have HX2 := Lh hx2
 have hc2 := hx2.cell
 have hf2 := hx2.frozen
 have HW := Lh hw0
 have HP0 := Lh (HP.out.later hb0)
 have HQ0 := Lh (HQ.out.later hb0)
 clear hb0 hx1 hx2 hw0
 refine Code.wp_mono (Q := fun e a W => e = .normal /\ a = { tmps := #[.pointer (some ⟨T, 0, none⟩), .slice o (tr p).length c, .slice o2 q.length c2, .pointer (some ⟨w.heap.size, 0, none⟩), undef, .pointer (some ⟨w.heap.size + 1, 0, none⟩), .slice none 0 0, undef, undef, undef, .slice o p.length c, .slice o (tr p).length c, .slice o2 q.length c2, .slice o2 (tr q).length c2, undef, undef, undef, undef, undef, undef, undef, undef, undef, undef, undef, undef, undef, undef, undef, undef, undef, undef, undef], defers := [] } /\ ∃ v, Below w0.heap.size w0 v /\ W = v.setCell ⟨w.heap.size + 1, 0, none⟩ (.slice o2 (tr q).length c2)) ?rest ?reg
 case reg =>
  refine wp_region_noPanic ?_
  go_region_with (go_at_call 168; refine (cut_any _ _ _ _ (by first | exact HP0.out.later (Below.refl _ _).drew | exact HQ0.out.later (Below.refl _ _).drew | exact (HP0.out.later (Below.refl _ _).drew).later (by assumption) | exact (HQ0.out.later (Below.refl _ _).drew).later (by assumption))).mono ?_; rintro e w' ⟨rfl, hb, hr⟩; have hx' : Boxed w' (w.heap.size + 1) 22 (.slice o2 q.length c2) := (by first | exact boxed_later HX2.out (Below.trans ((Below.refl _ _).drew) hb) | exact boxed_later (by assumption) hb); have hc' := hx'.cell; have hf' := hx'.frozen)
  all_goals first | exact ⟨rfl, rfl, _, Ks (Ks (Below.refl _ _).drew (by assumption)) (by assumption), rfl⟩ | skip
 case rest =>
  rintro e a W ⟨rfl, rfl, v, hv, rfl⟩
  obtain ⟨w1, hw1⟩ : ∃ w1, v.setCell ⟨w.heap.size + 1, 0, none⟩ (.slice o2 (tr q).length c2) = w1 := ⟨_, rfl⟩
  have hb1 : Below w.heap.size w w1 := by rw [<- hw1]; exact (Ks HB0.out hv).setCell (p := ⟨w.heap.size + 1, 0, none⟩) (by simp) _
  have hx1 : Boxed w1 w.heap.size 236 (.pointer (some ⟨T, 0, none⟩)) := by rw [<- hw1]; exact (boxed_later HX1.out hv).other (by omega) _
  have hx2 : Boxed w1 (w.heap.size + 1) 22 (.slice o2 (tr q).length c2) := by rw [<- hw1]; exact (boxed_later HX2.out hv).set _
  have hs1 := hx2.lt
  rw [hw1]
  have HB1 := Lh hb1
  have HX11 := Lh hx1
  have HX21 := Lh hx2
  have hc1 := hx2.cell
  clear hc2 hf2 hw1 hv hb1 hx1 hx2
  have htp := tr_le p
  have htq := tr_le q
  have hR1 := Lh ((HP.out.later HB1.out).take (tl p p.length))
  have hR2 := Lh ((HQ.out.later HB1.out).take (tl q q.length))
  have hT1 := Lh (HT.out.later HB1.out)
  have hbl : o2 = none ∨ True := .inr trivial
  obtain ⟨i0, hi, hz0, hz1, hz2⟩ := info_parts info_u8
  go_wp2_with (at_make; refine wpList_make_full _ rfl _ _ 22 rfl 0 5 i0 (.int .u8 0) 1 Tryz.underlying22 hi hz0 hz1 _ _ _ _ ((tr p).length + (tr q).length) rfl rfl (by omega) (by omega) (by rw [hz2]; omega) (by unfold maxLen; omega) (Nat.zero_le _) ?_)
  intro w2 hown hgrow
  have hb2 : Below w1.heap.size w1 w2 := (Below.refl _ _).grown hgrow (Nat.le_refl _) (fun k h => by cases h)
  have hbuf : Buf w2 w1.heap.size ((tr p).length + (tr q).length) (part (tr p) (tr q) (tr p).length) := by
   rw [part_start]; exact buf_made hown
  have hs2 : w1.heap.size < w2.heap.size := hbuf.lt
  have HB2 := Lh hb2
  have HBUF := Lh hbuf
  clear hown hgrow hb2 hbuf
  go_wp2_with fail
  refine (terms_any o (tr p).length c _).mono ?_; rintro e w4 ⟨rfl, hw4⟩
  obtain ⟨n, hn⟩ : ∃ n, (tr p).length + (tr q).length = n := ⟨_, rfl⟩
  obtain ⟨g, hg⟩ : ∃ g, w1.heap.size = g := ⟨_, rfl⟩
  have hX7 : Boxed w4 w2.heap.size 22 (.slice (some ⟨g, 0, none⟩) n n) := by rw [hw4, <- hn, <- hg]; exact (Boxed.new w2 _ _).alloc _
  have hb24 : Below w2.heap.size w2 w4 := by rw [hw4]; exact ((Below.refl _ _).alloc (Nat.le_refl _) _).alloc (by simp) _
  have hXt : Boxed w4 (w2.heap.size + 1) 22 (.slice o (tr p).length c) := by
   rw [hw4]
   have := Boxed.new (w2.alloc (.cells #[.slice (some ⟨w1.heap.size, 0, none⟩) ((tr p).length + (tr q).length) ((tr p).length + (tr q).length)] 22)) 22 (.slice o (tr p).length c)
   rwa [World.size_alloc] at this
  have hb14 := Ks HB2.out hb24
  have hB4 := Ks HB1.out hb14
  have hX1 := boxed_later HX11.out hb14
  have hX2 := boxed_later HX21.out hb14
  have hBuf := HBUF.out.later hb24
  have hP4 := hR1.out.later hb14
  have hQ4 := hR2.out.later hb14
  have hT4 := hT1.out.later hb14
  have hapP := hR1.out.apart (Nat.le_of_eq hg)
  have hapQ := hR2.out.apart (Nat.le_of_eq hg)
  have hTlt : T < w1.heap.size := (aE.1 hT1.out.block).1
  have hXtl := hXt.lt
  rw [hn] at hBuf
  rw [hg] at hBuf
  have hsz : (w2.alloc (Obj.cells #[Value.slice (some ⟨w1.heap.size, 0, none⟩) ((tr p).length + (tr q).length) ((tr p).length + (tr q).length)] 22)).heap.size = w2.heap.size + 1 := by simp
  rw [hsz]
  clear hs0 HB0 HX1 HX2 HW HP0 HQ0 hbl hi hz0 hz1 hz2 hc1 HB2 HBUF HX11 HX21
  have HX1 := Lh hX1
  have HX2 := Lh hX2
  have HX7 := Lh hX7
  have HXt := Lh hXt
  have HP4 := Lh hP4
  have HQ4 := Lh hQ4
  have HT4 := Lh hT4
  have HBUF := Lh hBuf
  have HB4 := Lh hB4
  have HAP := Lh hapP
  have HAQ := Lh hapQ
  have HW4 := Lh hw4
  clear hX1 hX2 hX7 hXt hP4 hQ4 hT4 hBuf hB4 hapP hapQ hw4 hR1 hR2 hT1 hb14 hb24 hsz HP HQ HT HB1
  have hgw : w.heap.size + 1 < g := by omega
  have hg4 : g < w4.heap.size := by omega
  go_wp2_with fail
  refine Rf.range_told (α := Nat × UInt8) (σ := Nat) rfl (enters_of Tryz.func181 (by kernel_rfl) rfl) (fun x => #[.int .i64 x.1, .int .u8 (x.2.toNat : Int)]) (fun _ => rfl)
   (fun i X => i <= (tr p).length /\ Buf X g n (part (tr p) (tr q) i) /\ Bt g w4.heap.size w4 X)
   (fun c X => False)
   (fun s x s' X => s = x.1 + 1 /\ s' = x.1 /\ x.1 < (tr p).length /\ co (tr p) x.1 = x.2)
   (tr p).length (fun s => s = 0) ?hI ?hIx ?hV ?h0 ?hseq ?round ?done ?stop
  case hI => exact fun s X X' h k => ⟨h.1, h.2.1.nc k, h.2.2.trans (Bt.of_nc k (Nat.le_refl _))⟩
  case hIx => exact fun c X X' h k => h
  case hV => exact fun s x s' X X' h k => h
  case h0 => exact ⟨Nat.le_refl _, HBUF.out, Bt.refl _ _ _⟩
  case hseq =>
   intro l B Bx X hnc hi hB hk ht
   refine (walk_any l (fun i X => i <= (tr p).length /\ Buf X g n (part (tr p) (tr q) i) /\ Bt g w4.heap.size w4 X) B Bx o (tr p).length c (w2.heap.size + 1) X ?_ ?_ ?_ hi hB).mono ?_
   ·exact fun i X h => ⟨(h.2.2.boxed HXt.out (by omega)).cell, tr p, rfl, h.2.2.row HP4.out HAP.out⟩
   ·rintro i X z' ⟨h1, h2, h3⟩ hlt hr hl h0
    obtain rfl : tr p = z' := RowIs.uniq (h3.row HP4.out HAP.out) hr hl.symm
    exact ⟨by omega, by rw [part_skip _ _ i hlt h0]; exact h2, h3⟩
   ·rintro i b X ⟨h1, h2, h3⟩ hB hlt ⟨z', hl, hr, rfl⟩ hb
    obtain rfl : tr p = z' := RowIs.uniq (h3.row HP4.out HAP.out) hr hl.symm
    exact ((ht (i + 1) (i, co (tr p) i) i X ⟨h1, h2, h3⟩ hB ⟨rfl, rfl, hlt, rfl⟩).mono fun e X' h => h.imp (fun h => ⟨h.1, h.2.1, h.2.2⟩) id)
   ·rintro e X' ⟨hv, (⟨h, hB⟩ | hx)⟩
    ·exact ⟨hv, .inl ⟨0, rfl, h, hB⟩⟩
    ·exact ⟨hv, .inr hx⟩
  case round =>
   rintro l s ⟨x, b⟩ s' X Z To ⟨h1, h2, h3⟩ ⟨e1, e2, hx, e3⟩ HN HR HE
   dsimp only at e1 e2 hx e3
   subst e1
   subst e2
   subst e3
   have c1 := (h3.boxed HX1.out (by omega)).cell
   have c2' := (h3.boxed HX2.out (by omega)).cell
   have c7 := (h3.boxed HX7.out (by omega)).cell
   have hmix : Tryz.prog.follows .mixedOrders = true := by kernel_rfl
   have hns1 : s' < n := by omega
   have hns2 : ¬ n = s' := by omega
   have hnm : n - s' <= maxLen := by unfold maxLen; omega
   have hcal := addScaled_any (part (tr p) (tr q) (s' + 1)) (tr q) (co (tr p) s') s' g n T C o2 c2 X.drew (h2.later (Below.refl _ _).drew) ((h3.row HQ4.out HAQ.out).later (Below.refl _ _).drew) ((h3.tab HT4.out (by omega)).later (Below.refl _ _).drew) (by omega) HAQ.out (by simp; omega) (n - s') (n - s') (by omega) (Nat.le_refl _) hnm
   have HCAL := Lh hcal
   have FIN : Hid (∀ W3, Buf W3 g n (mix (part (tr p) (tr q) (s' + 1)) s' (tr q) (co (tr p) s')) -> Only g X.drew W3 -> KeepsOthers X W3 /\ s' <= (tr p).length /\ Buf W3 g n (part (tr p) (tr q) s') /\ Bt g w4.heap.size w4 W3) := Lh fun W3 hb5 ho5 => by
    have ho : Only g X W3 := (Only.of_below (Below.refl _ _).drew).trans ho5
    refine ⟨ho.keeps h2, by omega, ?_, h3.trans (Bt.of_only ho)⟩
    rw [part_mix _ _ _ hx] at hb5
    exact hb5
   clear hcal hnm h2 h3
   gi_wp2
   refine ⟨trivial, ?_⟩
   gi_wp2
   refine Rf.region_round hmix (by kernel_rfl) ?_
   refine wpAnyIn_take (i := 2) (v := .int .i64 (s' : Int)) rfl rfl (by kernel_rfl) (by kernel_rfl) (by kernel_rfl) (fun _ _ _ h => h) ⟨Or.inl ⟨by rfl, fun w => by go_simp⟩, fun _ => rfl⟩ ?_
   refine wpAnyIn_take (i := 5) (v := .int .u8 ((co (tr p) s').toNat : Int)) rfl rfl (by kernel_rfl) (by kernel_rfl) (by kernel_rfl) (fun _ _ _ h => h) ⟨Or.inl ⟨by rfl, fun w => by go_simp⟩, fun _ => rfl⟩ ?_
   refine wpAnyIn_ready (rs := [0, 1, 4]) (by kernel_rfl) (by simp) ?_
   refine AllReadyIn.cons rfl (fun K hK => ?_) ?_
   ·go_simp
    refine hK _ _ ?_
    clear hK K
    refine wpAnyIn_ready (rs := [1, 4]) (by kernel_rfl) (by simp) ?_
    refine AllReadyIn.cons rfl (fun K hK => ?_) ?_
    ·go_simp
     refine hK _ _ ?_
     clear hK K
     refine wpAnyIn_take (i := 3) (v := .slice (some ⟨g, s', none⟩) (n - s') (n - s')) rfl rfl (by kernel_rfl) (by kernel_rfl) (by kernel_rfl) (fun _ _ _ h => h) ⟨Or.inl ⟨by rfl, fun w => by go_simp; intro hh; exact absurd hh (by omega)⟩, fun _ => rfl⟩ ?_
     refine wpAnyIn_ready (rs := [4]) (by kernel_rfl) (by simp) ?_
     refine AllReadyIn.cons rfl (fun K hK => ?_) ?_
     ·go_simp
      refine hK _ _ ?_
      clear hK K
      refine wpAnyIn_ready (rs := [6]) (by kernel_rfl) (by simp) ?_
      refine AllReadyIn.cons rfl (fun K hK => ?_) AllReadyIn.nil
      go_simp
      refine ⟨trivial, rfl, ?_⟩
      refine ((callsIn_wide (n := 0)).2 HCAL.out).mono ?_
      rintro e W3 ⟨⟨v3, rfl⟩, hb5, ho5⟩
      refine hK _ _ ?_
      clear hK K
      refine wpAnyIn_done (by kernel_rfl) ?_ _
      exact HN.out _ _ (FIN.out W3 hb5 ho5).1 (FIN.out W3 hb5 ho5).2
     exact AllReadyIn.nil
    refine AllReadyIn.cons rfl (fun K hK => ?_) ?_
    ·go_simp
     refine hK _ _ ?_
     clear hK K
     refine wpAnyIn_ready (rs := [1]) (by kernel_rfl) (by simp) ?_
     refine AllReadyIn.cons rfl (fun K hK => ?_) ?_
     ·go_simp
      refine hK _ _ ?_
      clear hK K
      refine wpAnyIn_take (i := 3) (v := .slice (some ⟨g, s', none⟩) (n - s') (n - s')) rfl rfl (by kernel_rfl) (by kernel_rfl) (by kernel_rfl) (fun _ _ _ h => h) ⟨Or.inl ⟨by rfl, fun w => by go_simp; intro hh; exact absurd hh (by omega)⟩, fun _ => rfl⟩ ?_
      refine wpAnyIn_ready (rs := [6]) (by kernel_rfl) (by simp) ?_
      refine AllReadyIn.cons rfl (fun K hK => ?_) AllReadyIn.nil
      go_simp
      refine ⟨trivial, rfl, ?_⟩
      refine ((callsIn_wide (n := 0)).2 HCAL.out).mono ?_
      rintro e W3 ⟨⟨v3, rfl⟩, hb5, ho5⟩
      refine hK _ _ ?_
      clear hK K
      refine wpAnyIn_done (by kernel_rfl) ?_ _
      exact HN.out _ _ (FIN.out W3 hb5 ho5).1 (FIN.out W3 hb5 ho5).2
     exact AllReadyIn.nil
    exact AllReadyIn.nil
   refine AllReadyIn.cons rfl (fun K hK => ?_) ?_
   ·go_simp
    refine hK _ _ ?_
    clear hK K
    refine wpAnyIn_take (i := 3) (v := .slice (some ⟨g, s', none⟩) (n - s') (n - s')) rfl rfl (by kernel_rfl) (by kernel_rfl) (by kernel_rfl) (fun _ _ _ h => h) ⟨Or.inl ⟨by rfl, fun w => by go_simp; intro hh; exact absurd hh (by omega)⟩, fun _ => rfl⟩ ?_
    refine wpAnyIn_ready (rs := [0, 4]) (by kernel_rfl) (by simp) ?_
    refine AllReadyIn.cons rfl (fun K hK => ?_) ?_
    ·go_simp
     refine hK _ _ ?_
     clear hK K
     refine wpAnyIn_ready (rs := [4]) (by kernel_rfl) (by simp) ?_
     refine AllReadyIn.cons rfl (fun K hK => ?_) ?_
     ·go_simp
      refine hK _ _ ?_
      clear hK K
      refine wpAnyIn_ready (rs := [6]) (by kernel_rfl) (by simp) ?_
      refine AllReadyIn.cons rfl (fun K hK => ?_) AllReadyIn.nil
      go_simp
      refine ⟨trivial, rfl, ?_⟩
      refine ((callsIn_wide (n := 0)).2 HCAL.out).mono ?_
      rintro e W3 ⟨⟨v3, rfl⟩, hb5, ho5⟩
      refine hK _ _ ?_
      clear hK K
      refine wpAnyIn_done (by kernel_rfl) ?_ _
      exact HN.out _ _ (FIN.out W3 hb5 ho5).1 (FIN.out W3 hb5 ho5).2
     exact AllReadyIn.nil
    refine AllReadyIn.cons rfl (fun K hK => ?_) ?_
    ·go_simp
     refine hK _ _ ?_
     clear hK K
     refine wpAnyIn_ready (rs := [0]) (by kernel_rfl) (by simp) ?_
     refine AllReadyIn.cons rfl (fun K hK => ?_) ?_
     ·go_simp
      refine hK _ _ ?_
      clear hK K
      refine wpAnyIn_ready (rs := [6]) (by kernel_rfl) (by simp) ?_
      refine AllReadyIn.cons rfl (fun K hK => ?_) AllReadyIn.nil
      go_simp
      refine ⟨trivial, rfl, ?_⟩
      refine ((callsIn_wide (n := 0)).2 HCAL.out).mono ?_
      rintro e W3 ⟨⟨v3, rfl⟩, hb5, ho5⟩
      refine hK _ _ ?_
      clear hK K
      refine wpAnyIn_done (by kernel_rfl) ?_ _
      exact HN.out _ _ (FIN.out W3 hb5 ho5).1 (FIN.out W3 hb5 ho5).2
     exact AllReadyIn.nil
    exact AllReadyIn.nil
   refine AllReadyIn.cons rfl (fun K hK => ?_) ?_
   ·go_simp
    refine hK _ _ ?_
    clear hK K
    refine wpAnyIn_ready (rs := [0, 1]) (by kernel_rfl) (by simp) ?_
    refine AllReadyIn.cons rfl (fun K hK => ?_) ?_
    ·go_simp
     refine hK _ _ ?_
     clear hK K
     refine wpAnyIn_ready (rs := [1]) (by kernel_rfl) (by simp) ?_
     refine AllReadyIn.cons rfl (fun K hK => ?_) ?_
     ·go_simp
      refine hK _ _ ?_
      clear hK K
      refine wpAnyIn_take (i := 3) (v := .slice (some ⟨g, s', none⟩) (n - s') (n - s')) rfl rfl (by kernel_rfl) (by kernel_rfl) (by kernel_rfl) (fun _ _ _ h => h) ⟨Or.inl ⟨by rfl, fun w => by go_simp; intro hh; exact absurd hh (by omega)⟩, fun _ => rfl⟩ ?_
      refine wpAnyIn_ready (rs := [6]) (by kernel_rfl) (by simp) ?_
      refine AllReadyIn.cons rfl (fun K hK => ?_) AllReadyIn.nil
      go_simp
      refine ⟨trivial, rfl, ?_⟩
      refine ((callsIn_wide (n := 0)).2 HCAL.out).mono ?_
      rintro e W3 ⟨⟨v3, rfl⟩, hb5, ho5⟩
      refine hK _ _ ?_
      clear hK K
      refine wpAnyIn_done (by kernel_rfl) ?_ _
      exact HN.out _ _ (FIN.out W3 hb5 ho5).1 (FIN.out W3 hb5 ho5).2
     exact AllReadyIn.nil
    refine AllReadyIn.cons rfl (fun K hK => ?_) ?_
    ·go_simp
     refine hK _ _ ?_
     clear hK K
     refine wpAnyIn_take (i := 3) (v := .slice (some ⟨g, s', none⟩) (n - s') (n - s')) rfl rfl (by kernel_rfl) (by kernel_rfl) (by kernel_rfl) (fun _ _ _ h => h) ⟨Or.inl ⟨by rfl, fun w => by go_simp; intro hh; exact absurd hh (by omega)⟩, fun _ => rfl⟩ ?_
     refine wpAnyIn_ready (rs := [0]) (by kernel_rfl) (by simp) ?_
     refine AllReadyIn.cons rfl (fun K hK => ?_) ?_
     ·go_simp
      refine hK _ _ ?_
      clear hK K
      refine wpAnyIn_ready (rs := [6]) (by kernel_rfl) (by simp) ?_
      refine AllReadyIn.cons rfl (fun K hK => ?_) AllReadyIn.nil
      go_simp
      refine ⟨trivial, rfl, ?_⟩
      refine ((callsIn_wide (n := 0)).2 HCAL.out).mono ?_
      rintro e W3 ⟨⟨v3, rfl⟩, hb5, ho5⟩
      refine hK _ _ ?_
      clear hK K
      refine wpAnyIn_done (by kernel_rfl) ?_ _
      exact HN.out _ _ (FIN.out W3 hb5 ho5).1 (FIN.out W3 hb5 ho5).2
     exact AllReadyIn.nil
    exact AllReadyIn.nil
   exact AllReadyIn.nil
  case done =>
   rintro D s X hD rfl ⟨h1, h2, h3⟩ hK
   have c7 := (h3.boxed HX7.out (by omega)).cell
   have hcut := cut_any (some ⟨g, 0, none⟩) (part (tr p) (tr q) 0) n X h2.row
   rw [part_length, hn, part_zero] at hcut
   have HCUT := Lh hcut
   clear hcut
   go_wp2_with fail
   refine HCUT.out.mono ?_; rintro e w5 ⟨rfl, hb5, hr5⟩
   have e5 : tr (mulL (tr p) (tr q)) = tr (mulL p q) := tr_congr (mulL_congr (co_tr p) (co_tr q))
   rw [e5] at hr5
   rw [e5]
   have hB5 : Below w.heap.size w w5 := (HB4.out.trans (h3.below (by omega) (by omega) (by omega))).trans (hb5.mono (by have := h3.size; omega))
   have hK5 : w5.heap[D]? = some (.deferred (some [])) := by rw [hb5.block D (aE.1 hK).1]; exact hK
   clear HCUT
   go_wp2_with fail
   refine Rf.leaves hK5 (results_tmp rfl _ _ _) ?_
   refine ⟨g, n, rfl, by omega, hB5.trans (belowK_b (w := w) (Nat.le_refl _) w5 D _ _ (by have := HB4.out.size; omega) hK5 rfl rfl), ?_⟩
   exact hr5.nc (Rf.NC.put (B := 0) _ (Nat.zero_le _) hK5 rfl)
  case stop => exact fun D c X hD h => h.elim
end Go.Proofs.YtffheegeaghfjaaGreatDoor
namespace Go.Proofs.YtffheegeaghfjaaGreatDoor
open Go.RowKit
attribute [local go_sem] Oper.semAt_some
theorem roots_walk (l : Nat) (I : Nat -> World -> Prop) (B Bx : World -> Prop) (o : Option Addr) (z : List UInt8) (c Q : Nat) (w : World)
    (hI : ∀ i X, I i X -> Boxed X Q 22 (.slice o z.length c) /\ RowIs X o (bytesV z) c)
    (hA : ∀ i X ob, I i X -> I i (X.alloc ob)) (hBk : ∀ X X', B X -> KeepsOthers X X' -> B X')
    (hturn : ∀ i A X, I i X -> B X -> i < z.length -> X.heap[A]? = some (.cells #[.int .u8 ((co z i).toNat : Int), .int .u8 1] 5 (0, 0)) ->
      YieldAt Fence.wide 0 Tryz.prog l #[.slice (some ⟨A, 0, none⟩) 2 2] X fun e X' => (e = .returned (.bool true) /\ I (i + 1) X' /\ B X') ∨ (e = .returned (.bool false) /\ Bx X'))
    (h0 : I 0 w) (hB : B w) :
    Calls Tryz.prog 186 #[.func (.yield l) #[] #[], .pointer (some ⟨Q, 0, none⟩)] w fun e X => (∃ v, e = .returned v) /\ ((I z.length X /\ B X) ∨ Bx X) := by
 refine (callsIn_wide (n := 0)).1 (callsIn_of_wp Tryz.func186 rfl trivial ?_ rfl)
 simp only [Tryz.ntmps186, List.size_toArray, List.length_cons, List.length_nil, Nat.reduceAdd, Nat.reduceSub, Array.replicate_succ, Array.replicate_zero, List.push_toArray, List.append_toArray, List.nil_append, List.cons_append]
 have hq := (hI _ _ h0).1.cell
 have hr0 := (hI _ _ h0).2
 have hn : z.length <= 9223372036854775807 := by
  have h1 := hr0.le
  have h2 := hr0.cap
  simp only [bytesV_length] at h1
  unfold maxLen at h2
  omega
 clear hr0
 gi_wp2
 gi_loopw [4, 7] (fun _ p wr => ∃ k : Nat, k <= z.length /\ p = .int .i64 (k : Int) /\ I k wr /\ B wr) (fun _ p wr => z.length - (intOf p).toNat)
 case atStart => exact ⟨0, Nat.zero_le _, rfl, h0, hB⟩
 case round =>
  obtain ⟨k, hk, rfl, hi, hb⟩ := hrel
  obtain ⟨hq2, hr⟩ := hI _ _ hi
  by_cases hlt : k < z.length
  ·have hm := hr.cap
   have hle := hr.le
   simp only [bytesV_length] at hle
   unfold maxLen at hm
   obtain ⟨b1, off1, rfl, hb1, hcell⟩ := hr.cells (by simp; omega)
   have hc1 : wr.cell? ⟨b1, off1 + k, none⟩ = some (.int .u8 ((co z k).toNat : Int)) := hcell k _ (bytesV_get z k (by omega))
   have hx := UInt8.toNat_lt (co z k)
   obtain ⟨fn, tmps, assign, body, hy, hR⟩ := hturn k wr.heap.size (wr.alloc (.cells #[.int .u8 ((co z k).toNat : Int), .int .u8 1] 5)) (hA _ _ _ hi) (hBk _ _ hb (KeepsOthers.alloc _ _)) hlt (World.alloc_heap_new _ _)
   have HI := Lh hI
   have HT := Lh hturn
   clear hcell hI hturn
   gi_wp2
   refine ⟨rfl, hR.mono ?_⟩
   rintro e W3 (⟨rfl, hi3, hb3⟩ | ⟨rfl, hx3⟩)
   ·gi_wp2
    go_roundw
    case rel => exact ⟨k + 1, by omega, by go_num, hi3, hb3⟩
    case measure => simp [intOf]; omega
   ·gi_wp2
    refine bodyPost_ret (results_none rfl _ _ _) rfl ?_
    exact ⟨⟨_, rfl⟩, .inr hx3⟩
  ·obtain rfl : k = z.length := by omega
   gi_wp2
   go_end0
   exact ⟨⟨_, rfl⟩, .inl ⟨hi, hb⟩⟩
end Go.Proofs.YtffheegeaghfjaaGreatDoor
namespace Go.Proofs.YtffheegeaghfjaaGreatDoor
open Go.RowKit
attribute [local go_sem] Oper.semAt_some
def prodL (F : UInt8 -> List UInt8) (z : List UInt8) : Nat -> List UInt8
 | 0 => [1]
 | n + 1 => mulL (prodL F z n) (F (co z n))
theorem prodL_length (F : UInt8 -> List UInt8) (z : List UInt8) (hF : ∀ x, (F x).length = 2) (n : Nat) : (prodL F z n).length = 1 + 2 * n := by
 induction n with
 | zero => rfl
 | succ n ih => simp [prodL, mulL, ih, hF]; omega
def SoFar (b B : Nat) (m : List UInt8) (X : World) : Prop := ∃ g cap, B <= g /\ g ≠ b /\ Boxed X b 22 (.slice (some ⟨g, 0, none⟩) (tr m).length cap) /\ RowIs X (some ⟨g, 0, none⟩) (bytesV (tr m)) cap
theorem SoFar.nc {b B B' : Nat} {m : List UInt8} {X X' : World} (h : SoFar b B m X) (k : Rf.NC B' X X') : SoFar b B m X' := by
 obtain ⟨g, cap, h1, h2, h3, h4⟩ := h
 exact ⟨g, cap, h1, h2, k.cells h3, h4.nc k⟩
theorem row_cells {X : World} {A : Nat} {z : List UInt8} (h : X.heap[A]? = some (.cells (bytesV z).toArray 5 (0, 0))) (hm : z.length <= maxLen) : RowIs X (some ⟨A, 0, none⟩) (bytesV z) z.length :=
 ⟨by simp, hm, (fun e => by cases e), fun h0 => ⟨A, 0, rfl, (aE.1 h).1, fun i v hv => by
  rw [Nat.zero_add]
  simp only [World.cell?, h]
  simpa using hv⟩⟩
theorem tr_one : tr [1] = [1] := by decide
def Factors (k : Nat) (F : UInt8 -> List UInt8) (z : List UInt8) (o : Option Addr) (c Q : Nat) : Prop :=
 ∀ (l : Nat) (I : Nat -> World -> Prop) (B Bx : World -> Prop) (w : World)
  (hI : ∀ i X, I i X -> Boxed X Q 22 (.slice o z.length c) /\ RowIs X o (bytesV z) c)
  (hA : ∀ i X ob, I i X -> I i (X.alloc ob)) (hBk : ∀ X X', B X -> KeepsOthers X X' -> B X')
  (hturn : ∀ i A X, I i X -> B X -> i < z.length -> X.heap[A]? = some (.cells (bytesV (F (co z i))).toArray 5 (0, 0)) ->
   YieldAt Fence.wide 0 Tryz.prog l #[.slice (some ⟨A, 0, none⟩) 2 2] X fun e X' => (e = .returned (.bool true) /\ I (i + 1) X' /\ B X') ∨ (e = .returned (.bool false) /\ Bx X'))
  (h0 : I 0 w) (hB : B w),
  Calls Tryz.prog k #[.func (.yield l) #[] #[], .pointer (some ⟨Q, 0, none⟩)] w fun e X => (∃ v, e = .returned v) /\ ((I z.length X /\ B X) ∨ Bx X)
theorem factors_roots (z : List UInt8) (o : Option Addr) (c Q : Nat) : Factors 186 (fun r => [r, 1]) z o c Q :=
 fun l I B Bx w hI hA hBk hturn h0 hB => roots_walk l I B Bx o z c Q w hI hA hBk (fun i A X a b d e => hturn i A X a b d e) h0 hB
theorem all_any (k : Nat) (F : UInt8 -> List UInt8) (hF : ∀ x, (F x).length = 2) (z : List UInt8) (o : Option Addr) (c Q : Nat) (w : World)
    (ek : ∀ args w, (callFunc k args).run Tryz.prog w = .ok (.enter k args) w) (hf : Factors k F z o c Q) (hl : z.length <= 1000) (hQ : Boxed w Q 22 (.slice o z.length c)) (hR : RowIs w o (bytesV z) c) :
    Calls Tryz.prog 185 #[.func (.func k) #[] #[.pointer (some ⟨Q, 0, none⟩)]] w fun e w' => ∃ g cap, e = .returned (.slice (some ⟨g, 0, none⟩) (tr (prodL F z z.length)).length cap) /\ w.heap.size <= g /\ Below w.heap.size w w' /\ RowIs w' (some ⟨g, 0, none⟩) (bytesV (tr (prodL F z z.length))) cap := by
 have HF := Lh hf
 have HEK := Lh ek
 have HFL := Lh hF
 have HQ := Lh hQ
 have HR := Lh hR
 clear hf ek hF hQ hR
 refine Rf.calls_marks Tryz.func185 rfl ?_
 simp only [Tryz.ntmps185, List.size_toArray, List.length_cons, List.length_nil, Nat.reduceAdd, Nat.reduceSub, Array.replicate_succ, Array.replicate_zero, List.push_toArray, List.append_toArray, List.nil_append, List.cons_append]
 go_wp2_with fail
 refine (make_any _).mono ?_; rintro e w1 ⟨n, C, hC, rfl, hw1⟩
 have hT1 : TabAt w1 w.heap.size C := by rw [hw1]; exact TabAt.made hC
 have hb1 : Below w.heap.size w w1 := by rw [hw1]; exact made_below
 have hs1 : w.heap.size < w1.heap.size := (aE.1 hT1.block).1
 have HT1 := Lh hT1
 have HB1 := Lh hb1
 have HC := Lh hC
 have HW1 := Lh hw1
 clear hC hT1 hb1 hw1
 go_wp2_with fail
 obtain ⟨w2, hw2⟩ : ∃ w2, ((w1.alloc (.cells #[.int .u8 1] 5)).alloc (.cells #[.pointer (some ⟨w.heap.size, 0, none⟩)] 236)).alloc (.cells #[.slice (some ⟨w1.heap.size, 0, none⟩) 1 1] 22) = w2 := ⟨_, rfl⟩
 have hb2 : Below w1.heap.size w1 w2 := by rw [<- hw2]; exact (((Below.refl _ _).alloc (Nat.le_refl _) _).alloc (by simp) _).alloc (by simp; omega) _
 have hX3 : Boxed w2 (w1.heap.size + 1) 236 (.pointer (some ⟨w.heap.size, 0, none⟩)) := by
  rw [<- hw2]
  have := Boxed.new (w1.alloc (.cells #[.int .u8 1] 5)) 236 (.pointer (some ⟨w.heap.size, 0, none⟩))
  rw [World.size_alloc] at this
  exact this.alloc _
 have hX4 : Boxed w2 (w1.heap.size + 1 + 1) 22 (.slice (some ⟨w1.heap.size, 0, none⟩) 1 1) := by
  rw [<- hw2]
  have := Boxed.new ((w1.alloc (.cells #[.int .u8 1] 5)).alloc (.cells #[.pointer (some ⟨w.heap.size, 0, none⟩)] 236)) 22 (.slice (some ⟨w1.heap.size, 0, none⟩) 1 1)
  rw [World.size_alloc, World.size_alloc] at this
  exact this
 have hone : w2.heap[w1.heap.size]? = some (.cells (bytesV [1]).toArray 5 (0, 0)) := by
  rw [<- hw2]
  exact ((Boxed.new w1 5 (.int .u8 1)).alloc _).alloc _
 have hs2 := hX4.lt
 have hT2 := HT1.out.later hb2
 have hQ2 := boxed_later HQ.out (Ks HB1.out hb2)
 have hR2 := HR.out.later (Ks HB1.out hb2)
 have hB2 := Ks HB1.out hb2
 have hQlt := HQ.out.lt
 rw [hw2]
 have HX3 := Lh hX3
 have HT2 := Lh hT2
 have HQ2 := Lh hQ2
 have HR2 := Lh hR2
 have HB2 := Lh hB2
 have HAP := Lh (HR.out.apart (g := w1.heap.size + 1 + 1) (by omega))
 have HI0 : Hid (SoFar (w1.heap.size + 1 + 1) w.heap.size (prodL F z 0) w2) := Lh ⟨w1.heap.size, 1, by omega, by omega, by
  show Boxed w2 _ _ (.slice _ (tr [1]).length 1)
  rw [tr_one]; exact hX4, by
  show RowIs w2 _ (bytesV (tr [1])) 1
  rw [tr_one]; exact row_cells hone (by unfold maxLen; simp)⟩
 clear hX3 hT2 hQ2 hR2 hB2 hX4 hone hw2 hb2
 refine Rf.range_told (α := Nat) (σ := Nat) rfl HEK.out (fun x => #[.slice (some ⟨x, 0, none⟩) 2 2]) (fun _ => rfl)
  (fun s X => s <= z.length /\ SoFar (w1.heap.size + 1 + 1) w.heap.size (prodL F z s) X /\ Bt (w1.heap.size + 1 + 1) w2.heap.size w2 X)
  (fun c X => False)
  (fun s x s' X => s' = s + 1 /\ s < z.length /\ X.heap[x]? = some (.cells (bytesV (F (co z s))).toArray 5 (0, 0)))
  0 (fun s => s = z.length) ?hI ?hIx ?hV ?h0 ?hseq ?round ?done ?stop
 case hI => exact fun s X X' h k => ⟨h.1, h.2.1.nc k, h.2.2.trans (Bt.of_nc k (Nat.le_refl _))⟩
 case hIx => exact fun c X X' h k => h
 case hV => exact fun s x s' X X' h k => ⟨h.1, h.2.1, k.cells h.2.2⟩
 case h0 => exact ⟨Nat.zero_le _, HI0.out, Bt.refl _ _ _⟩
 case hseq =>
  intro l B Bx X hnc hi hB hk ht
  refine (HF.out l (fun s X => s <= z.length /\ SoFar (w1.heap.size + 1 + 1) w.heap.size (prodL F z s) X /\ Bt (w1.heap.size + 1 + 1) w2.heap.size w2 X) B Bx X ?_ ?_ hk ?_ hi hB).mono ?_
  ·exact fun i X h => ⟨h.2.2.boxed HQ2.out (by omega), h.2.2.row HR2.out HAP.out⟩
  ·exact fun i X ob h => ⟨h.1, h.2.1.nc (Rf.NC.alloc (B := 0) X ob), h.2.2.trans (Bt.of_nc (Rf.NC.alloc (B := w2.heap.size) X ob) (Nat.le_refl _))⟩
  ·intro i A X h hB hlt hA
   exact (ht i A (i + 1) X h hB ⟨rfl, hlt, hA⟩).mono fun e X' h => h.imp (fun h => ⟨h.1, h.2.1, h.2.2⟩) id
  ·rintro e X' ⟨hv, (⟨h, hB⟩ | hx)⟩
   ·exact ⟨hv, .inl ⟨z.length, rfl, h, hB⟩⟩
   ·exact ⟨hv, .inr hx⟩
 case round =>
  rintro l s x s' X Z To ⟨h1, ⟨g, cap, h2, h3, h4, h5⟩, h6⟩ ⟨rfl, hlt, hA⟩ HN HR HE
  have hrow := row_cells hA (by rw [HFL.out]; unfold maxLen; omega)
  have htl := tr_le (prodL F z s)
  rw [prodL_length F z HFL.out] at htl
  have hcal := multiply_any (tr (prodL F z s)) (F (co z s)) (some ⟨g, 0, none⟩) (some ⟨x, 0, none⟩) cap (F (co z s)).length w.heap.size C X h5 hrow (h6.tab HT2.out (by omega)) (by rw [HFL.out]; omega)
  have e1 : tr (mulL (tr (prodL F z s)) (F (co z s))) = tr (prodL F z (s + 1)) := tr_congr (mulL_congr (co_tr _) (fun _ => rfl))
  rw [e1, HFL.out] at hcal
  have c3 := (h6.boxed HX3.out (by omega)).cell
  have c4 := h4.cell
  have hblt := h4.lt
  have HCAL := Lh hcal
  have FIN : Hid (∀ g' cap' X1, X.heap.size <= g' -> Below X.heap.size X X1 -> RowIs X1 (some ⟨g', 0, none⟩) (bytesV (tr (prodL F z (s + 1)))) cap' ->
      KeepsOthers X (X1.setCell ⟨w1.heap.size + 1 + 1, 0, none⟩ (.slice (some ⟨g', 0, none⟩) (tr (prodL F z (s + 1))).length cap')) /\ s + 1 <= z.length /\ SoFar (w1.heap.size + 1 + 1) w.heap.size (prodL F z (s + 1)) (X1.setCell ⟨w1.heap.size + 1 + 1, 0, none⟩ (.slice (some ⟨g', 0, none⟩) (tr (prodL F z (s + 1))).length cap')) /\ Bt (w1.heap.size + 1 + 1) w2.heap.size w2 (X1.setCell ⟨w1.heap.size + 1 + 1, 0, none⟩ (.slice (some ⟨g', 0, none⟩) (tr (prodL F z (s + 1))).length cap'))) := Lh fun g' cap' X1 hg hb hr => by
   have ho : Only (w1.heap.size + 1 + 1) X1 (X1.setCell ⟨w1.heap.size + 1 + 1, 0, none⟩ (.slice (some ⟨g', 0, none⟩) (tr (prodL F z (s + 1))).length cap')) := grownBy_setCell' _ _ _
   refine ⟨(keeps_below hb).trans (KeepsOthers.setCell _ _ _), by omega, ⟨g', cap', by have := HB2.out.size; have := h6.size; omega, by omega, (boxed_later h4 hb).set _, ho.row hr (fun _ p e => by cases e; show g' ≠ _; omega)⟩, h6.trans (Bt.of_only ((Only.of_below hb).trans ho))⟩
  have F4 : Hid (∀ X1, Below X.heap.size X X1 -> Boxed X1 (w1.heap.size + 1 + 1) 22 (.slice (some ⟨g, 0, none⟩) (tr (prodL F z s)).length cap)) := Lh fun X1 hb => boxed_later h4 hb
  clear hcal hrow h5 h6 hA htl
  gi_wp2
  refine ⟨trivial, ?_⟩
  gi_wp2
  refine ⟨trivial, rfl, ?_⟩
  refine (CallsIn.inRound l ((callsIn_wide (n := 0)).2 HCAL.out)).mono ?_
  rintro e X1 ⟨g', cap', rfl, hg', hb', hr'⟩
  have b4 := F4.out X1 hb'
  have d4 := b4.cell
  have f4 := b4.frozen
  have FI := Lh (FIN.out g' cap' X1 hg' hb' hr')
  clear b4 hr' HCAL FIN F4
  gi_wp2
  exact HN.out _ _ FI.out.1 FI.out.2
 case done =>
  rintro D s X hD rfl ⟨h1, ⟨g, cap, h2, h3, h4, h5⟩, h6⟩ hK
  have c4 := h4.cell
  have H5 := Lh h5
  have H6 := Lh h6
  clear h5 h6
  go_wp2_with fail
  refine Rf.leaves hK (results_tmp rfl _ _ _) ?_
  refine ⟨g, cap, rfl, h2, (HB2.out.trans (H6.out.below (by omega) (by have := HB2.out.size; omega) HB2.out.size)).trans (belowK_b (w := w) (Nat.le_refl _) X D _ _ (by have := HB2.out.size; omega) hK rfl rfl), ?_⟩
  exact H5.out.nc (Rf.NC.put (B := 0) _ (Nat.zero_le _) hK rfl)
 case stop => exact fun D c X hD h => h.elim
theorem roots_any (z : List UInt8) (o : Option Addr) (c : Nat) (w : World) (hl : z.length <= 1000) (hR : RowIs w o (bytesV z) c) :
    Calls Tryz.prog 175 #[.slice o z.length c] w fun e w' => ∃ g cap, e = .returned (.slice (some ⟨g, 0, none⟩) (tr (prodL (fun r => [r, 1]) z z.length)).length cap) /\ w.heap.size <= g /\ Below w.heap.size w w' /\ RowIs w' (some ⟨g, 0, none⟩) (bytesV (tr (prodL (fun r => [r, 1]) z z.length))) cap := by
 have hmf := @makes Tryz.prog
 have hcal := all_any 186 (fun r => [r, 1]) (fun _ => rfl) z o c w.heap.size (w.alloc (.cells #[.slice o z.length c] 22)) (enters_of Tryz.func186 (by kernel_rfl) rfl) (factors_roots z o c _) hl (Boxed.new w _ _) (hR.later ((Below.refl _ _).alloc (Nat.le_refl _) _))
 have HCAL := Lh hcal
 clear hcal hR
 go_enter Tryz.func175, Tryz.ntmps175
 go_wp2_with fail
 refine HCAL.out.mono ?_; rintro e w1 ⟨g, cap, rfl, hg, hb, hr⟩
 have HB := Lh hb
 have HR := Lh hr
 have hg2 : w.heap.size <= g := by simp at hg; omega
 clear hb hr hg HCAL hmf
 go_wp2_with fail
 go_ret
 exact ⟨g, cap, rfl, hg2, ((Below.refl w.heap.size w).alloc (Nat.le_refl _) _).trans (HB.out.mono (by simp)), HR.out⟩
end Go.Proofs.YtffheegeaghfjaaGreatDoor
namespace Go.Proofs.YtffheegeaghfjaaGreatDoor
open Go.RowKit
def Full (W : World) (g : Nat) (ys : List UInt8) : Prop := W.heap[g]? = some (.cells (bytesV ys).toArray 5 (0, 0))
theorem Full.buf {W : World} {g : Nat} {ys : List UInt8} (h : Full W g ys) (hm : ys.length <= maxLen) : Buf W g ys.length ys :=
 ⟨by simp, .inr ⟨g, ys.length, _, rfl, Nat.zero_le _, h, Nat.le_refl _, hm, by simp, by rw [Nat.mul_one]; exact List.take_of_length_le (by simp)⟩⟩
theorem Buf.full {W : World} {g n : Nat} {ys : List UInt8} (h : Buf W g n ys) (hn : n = ys.length) : Full W g ys := by
 subst hn
 obtain ⟨hl, hx⟩ := h
 rcases hx with ⟨h, _⟩ | ⟨g', cap', cur, h, _, hh, _, _, hcur, htake⟩
 ·cases h
 ·injection h with h1 h2 h3
  injection h1 with h1
  injection h1 with h1
  subst h1; subst h3
  unfold Full
  rw [hh]
  have e : cur = (bytesV ys).toArray := by
   apply Array.ext'
   rw [<- htake, List.take_of_length_le (by simp [hcur])]
  rw [e]
theorem splice_bytes (ys z : List UInt8) (off : Nat) : splice (bytesV ys) off (bytesV z) = bytesV (splice ys off z) := by
 simp [splice, bytesV]
theorem co_splice (ys z : List UInt8) (off i : Nat) (h : off + z.length <= ys.length) : co (splice ys off z) i = if off <= i /\ i < off + z.length then co z (i - off) else co ys i := by
 unfold splice co
 simp only [List.getD_eq_getElem?_getD]
 by_cases h1 : i < off
 ·rw [if_neg (by omega), List.getElem?_append_left (by simp; omega), List.getElem?_take_of_lt h1]
 ·rw [List.getElem?_append_right (by simp; omega)]
  have e : (ys.take off).length = off := by simp; omega
  rw [e]
  by_cases h2 : i < off + z.length
  ·rw [if_pos ⟨by omega, h2⟩, List.getElem?_append_left (by omega)]
  ·rw [if_neg (by omega), List.getElem?_append_right (by omega), List.getElem?_drop]
   congr 2; omega
theorem zeros_co (n i : Nat) : co (List.replicate n 0) i = 0 := by
 simp only [co, List.getD_eq_getElem?_getD, List.getElem?_replicate]
 split <;> rfl
namespace Gf
theorem sm_one (f : Nat -> UInt8) (t n : Nat) (h : t < n) : sm (fun j => if j = t then f j else 0) n = f t := by
 induction n with
 | zero => omega
 | succ n ih =>
  rw [sm]
  by_cases e : n = t
  ·subst e
   rw [if_pos rfl, sm_zero (fun i hi => if_neg (by omega)), UInt8.zero_xor]
  ·rw [if_neg e, ih (by omega), UInt8.xor_zero]
def gd (a b : UInt8) : UInt8 := UInt8.ofNat (mul a.toNat (inv b.toNat))
theorem gd_nat (a b : UInt8) : (gd a b).toNat = mul a.toNat (inv b.toNat) := by
 have := mul_lt a.toNat (inv b.toNat) (UInt8.toNat_lt a)
 simp only [gd, UInt8.toNat_ofNat']
 omega
theorem gd_gm (a b : UInt8) (h : b ≠ 0) : gm (gd a b) b = a := u8_ext (by
 have h0 : b.toNat ≠ 0 := fun e => h (u8_ext e)
 rw [gm_nat, gd_nat, mul_assoc _ _ _ (UInt8.toNat_lt a) (inv_lt _) (UInt8.toNat_lt b), mul_comm (inv b.toNat) b.toNat (inv_lt _) (UInt8.toNat_lt b), mul_inv _ h0 (UInt8.toNat_lt b)]
 exact mul_one_right _ (UInt8.toNat_lt a))
end Gf
structure DI (p q : List UInt8) (m s : Nat) (R Y : List UInt8) : Prop where
 lr : R.length = p.length
 ly : Y.length = p.length - m
 eq : ∀ k, co (mulL Y q) k ^^^ co R k = co p k
 top : ∀ k, s <= k -> m <= k -> co R k = 0
 low : ∀ j, j + m < s -> co Y j = 0
theorem co_replicate (n k : Nat) : co (List.replicate n 0) k = 0 := by
 simp only [co, List.getD_eq_getElem?_getD, List.getElem?_replicate]
 split <;> rfl
theorem DI.start (p q : List UInt8) (m : Nat) : DI p q m p.length p (List.replicate (p.length - m) 0) := by
 refine ⟨rfl, by simp, fun k => ?_, fun k h _ => co_ge h, fun j _ => co_replicate _ _⟩
 rw [co_mulL, Gf.pm, Gf.sm_zero (fun i _ => by rw [co_replicate, Gf.zero_gm]), UInt8.zero_xor]
theorem DI.skip {p q : List UInt8} {m i : Nat} {R Y : List UInt8} (h : DI p q m (i + 1) R Y) (h0 : co R i = 0) : DI p q m i R Y :=
 ⟨h.lr, h.ly, h.eq, fun k hk hm => by
  by_cases e : k = i
  ·rw [e]; exact h0
  ·exact h.top k (by omega) hm, fun j hj => h.low j (by omega)⟩
theorem ps_ge {q : List UInt8} {n k : Nat} (h : n + q.length <= k) : Gf.ps n (co q) k = 0 := by
 unfold Gf.ps
 rw [if_pos (by omega)]
 exact co_ge (by omega)
theorem co_mix_all (ys z : List UInt8) (off k : Nat) (a : UInt8) (h : off + z.length <= ys.length) : co (mix ys off z a) k = co ys k ^^^ Gf.gm a (Gf.ps off (co z) k) := by
 by_cases hk : k < ys.length
 ·rw [co_mix _ _ _ _ _ hk]
  congr 1
  unfold Gf.ps
  split
  ·exact Gf.gm_comm _ _
  ·rw [Gf.gm_zero]
 ·rw [co_ge (by rw [mix_length]; omega), co_ge (by omega), ps_ge (by omega), Gf.gm_zero]; rfl
theorem DI.step {p q : List UInt8} {m i : Nat} {R Y : List UInt8} (h : DI p q m (i + 1) R Y) (hm : m <= i) (hi : i < p.length) (hq : q.length = m + 1) (by_ : UInt8) (hb : Gf.gm by_ (co q m) = co R i) :
    DI p q m i (mix R (i - m) q by_) (Y.set (i - m) by_) := by
 have hlr := h.lr
 have hly := h.ly
 have hmix : ∀ k, co (mix R (i - m) q by_) k = co R k ^^^ Gf.gm by_ (Gf.ps (i - m) (co q) k) := fun k => co_mix_all _ _ _ _ _ (by omega)
 refine ⟨by simpa using hlr, by simpa using hly, fun k => ?_, fun k hk hmk => ?_, fun j hj => ?_⟩
 ·rw [hmix, co_mulL, <- h.eq k, co_mulL, List.length_set]
  have e : Gf.pm Y.length (co (Y.set (i - m) by_)) (co q) k = Gf.pm Y.length (co Y) (co q) k ^^^ Gf.gm by_ (Gf.ps (i - m) (co q) k) := by
   unfold Gf.pm
   have e1 := Gf.sm_one (fun j => Gf.gm by_ (Gf.ps j (co q) k)) (i - m) Y.length (by omega)
   rw [<- e1, <- Gf.sm_xor]
   refine Gf.sm_congr fun j hj => ?_
   rw [co_set]
   by_cases ej : j = i - m
   ·rw [if_pos ⟨ej.symm, by omega⟩, if_pos ej, h.low j (by omega), Gf.zero_gm, UInt8.zero_xor]
   ·rw [if_neg (fun h => ej h.1.symm), if_neg ej, UInt8.xor_zero]
  rw [e, Gf.xor_swap]
  rw [UInt8.xor_comm (Gf.gm _ _) (Gf.gm _ _)]
  rw [show co R k = co R k from rfl]
  rw [UInt8.xor_self, UInt8.xor_zero]
 ·rw [hmix]
  by_cases e : k = i
  ·subst e
   unfold Gf.ps
   rw [if_pos (by omega), show k - (k - m) = m by omega, hb, UInt8.xor_self]
  ·rw [h.top k (by omega) hmk, ps_ge (by omega), Gf.gm_zero]; rfl
 ·rw [co_set, if_neg (by omega)]
  exact h.low j (by omega)
structure DivOf (p q a b : List UInt8) : Prop where
 trimA : tr a = a
 trimB : tr b = b
 less : b.length < (tr q).length
 eq : ∀ k, co (mulL a q) k ^^^ co b k = co p k
theorem tr_of_top {z : List UInt8} (h : z.length ≠ 0 -> co z (z.length - 1) ≠ 0) : tr z = z := by
 have e : tl z z.length = z.length := tl_unique z z.length z.length (Nat.le_refl _) (fun i h1 h2 => absurd h1 (by omega)) h
 unfold tr
 rw [e, List.take_length]
theorem tr_low {R : List UInt8} {m : Nat} (h : ∀ k, m <= k -> co R k = 0) : (tr R).length <= m := by
 rw [tr_length]
 by_cases e : tl R R.length <= m
 ·exact e
 ·exact absurd (h _ (by omega)) (tl_top R R.length (by omega))
theorem DI.done {p q : List UInt8} {m s : Nat} {R Y : List UInt8} (h : DI (tr p) (tr q) m s R Y) (hs : s <= m) (hq : (tr q).length = m + 1) : DivOf p q Y (tr R) := by
 have hly := h.ly
 have hz : ∀ k, m <= k -> co R k = 0 := fun k hk => h.top k (by omega) hk
 have hmul : ∀ k, co (mulL Y q) k = co (mulL Y (tr q)) k := fun k => by
  exact mulL_congr (fun _ => rfl) (fun i => (co_tr q i).symm) k
 refine ⟨tr_of_top fun h0 => ?_, tr_tr R, by have := tr_low hz; omega, fun k => ?_⟩
 ·intro e
  have htop : co (tr p) ((tr p).length - 1) ≠ 0 := by
   rw [co_tr, tr_length]
   exact tl_top p p.length (by rw [<- tr_length]; omega)
  refine htop ?_
  rw [<- h.eq, hz _ (by omega), UInt8.xor_zero, co_mulL]
  refine Gf.sm_zero fun j hj => ?_
  by_cases ej : j = Y.length - 1
  ·rw [ej, e, Gf.zero_gm]
  ·rw [ps_ge (by omega), Gf.gm_zero]
 ·rw [co_tr, hmul, h.eq, co_tr]
structure Bts (M : Nat -> Prop) (B : Nat) (X X' : World) : Prop where
 os : X'.os = X.os
 tape : X'.tape = X.tape
 output : X'.output = X.output
 size : X.heap.size <= X'.heap.size
 same : ∀ k o, ¬ M k -> X.heap[k]? = some o -> o.isCells = true ∨ k < B -> X'.heap[k]? = some o
theorem Bts.refl (M : Nat -> Prop) (B : Nat) (X : World) : Bts M B X X := ⟨rfl, rfl, rfl, Nat.le_refl _, fun _ _ _ h _ => h⟩
theorem Bts.trans {M : Nat -> Prop} {B : Nat} {X Y Z : World} (h : Bts M B X Y) (k : Bts M B Y Z) : Bts M B X Z :=
 ⟨k.os.trans h.os, k.tape.trans h.tape, k.output.trans h.output, Nat.le_trans h.size k.size, fun i o hg hi ho => k.same i o hg (h.same i o hg hi ho) ho⟩
theorem Bts.of_nc {M : Nat -> Prop} {B B' : Nat} {X Y : World} (h : Rf.NC B' X Y) (hB : B <= B') : Bts M B X Y := ⟨h.os, h.tape, h.output, h.size, fun i o _ hi ho => h.same i o hi (ho.imp id (fun h => by omega))⟩
theorem Bts.of_only {M : Nat -> Prop} {g B : Nat} {X Y : World} (h : Only g X Y) (hg : M g) : Bts M B X Y :=
 ⟨h.os, h.tape, h.output, h.size, fun i o hn hi _ => (h.block i (aE.1 hi).1 (fun e => hn (by cases e; exact hg))).trans hi⟩
theorem Bts.cell {M : Nat -> Prop} {B : Nat} {X Y : World} (h : Bts M B X Y) {p : Addr} {v : Value} (hp : ¬ M p.block) (hv : X.cell? p = some v) : Y.cell? p = some v := by
 obtain ⟨o, ho, hc⟩ := cells_of_cell hv
 exact (World.cell?_of_block ((h.same _ o hp ho (.inl hc)).trans ho.symm)).trans hv
theorem Bts.row {M : Nat -> Prop} {B : Nat} {a b : World} (h : Bts M B a b) {o : Option Addr} {vs : List Value} {c : Nat} (hr : RowIs a o vs c) (hne : 0 < vs.length -> ∀ p, o = some p -> ¬ M p.block) : RowIs b o vs c :=
 ⟨hr.le, hr.cap, hr.nil, fun h0 => by
  obtain ⟨p, off, e, hlt, hc⟩ := hr.cells h0
  exact ⟨p, off, e, Nat.lt_of_lt_of_le hlt h.size, fun i v hv => h.cell (p := ⟨p, off + i, none⟩) (show ¬ M p from hne h0 ⟨p, off, none⟩ e) (hc i v hv)⟩⟩
theorem Bts.tab {M : Nat -> Prop} {B T : Nat} {C : Array Value} {a b : World} (h : Bts M B a b) (ht : TabAt a T C) (hne : ¬ M T) : TabAt b T C := ⟨h.same T _ hne ht.block (.inl rfl), ht.tab⟩
theorem Bts.boxed {M : Nat -> Prop} {B k : Nat} {t : TypeId} {v : Value} {a b : World} (h : Bts M B a b) (ht : Boxed a k t v) (hne : ¬ M k) : Boxed b k t v := h.same k _ hne ht (.inl rfl)
theorem Bts.below {M : Nat -> Prop} {B n : Nat} {X X' : World} (h : Bts M B X X') (hg : ∀ k, M k -> n <= k) (hn : n <= B) (hx : n <= X.heap.size) : Below n X X' :=
 ⟨h.os, h.tape, h.output, h.size, fun k hk => by
  have hlt : k < X.heap.size := by omega
  rw [Array.getElem?_eq_getElem hlt]
  exact h.same k _ (fun hm => absurd (hg k hm) (by omega)) (Array.getElem?_eq_getElem hlt) (.inr (by omega))⟩
end Go.Proofs.YtffheegeaghfjaaGreatDoor
