/- The code's blocks: Pad, blank, lay, whole, Column, parity. The code's parity blocks of a group; slices.Concat over rows of blocks and over blocks. The code's split of a padded file into blocks: slices.Chunk walked, its round. The code's Blocks: all blocks of a file. -/
import Derived.Test.YtomkkkbdipcjgaaDoorMt
import Derived.Test.YtomkkkbdipcjgaaDoorSh
import Derived.Test.YtomkkkbdipcjgaaDoorPe
import Derived.Test.YtomkkkbdipcjgaaDoorMu
import Derived.Test.YtomkkkbdipcjgaaDoorRf
namespace Go.Proofs.YtomkkkbdipcjgaaDoor
open Go.RowKit
set_option linter.unusedVariables false
set_option linter.unusedSimpArgs false
theorem pad_splice (f : List UInt8) (N : Nat) (h : 8 * nbk f.length = N) : splice (List.replicate N 0) 0 f = padL f := by
  have hl := nbk_le f.length
  refine list_ext (by rw [length_splice _ _ _ (by simp; omega)]; simp [h]) fun i hi => ?_
  rw [length_splice _ _ _ (by simp; omega)] at hi
  rw [co_splice _ _ _ _ (by simp; omega), zeros_co]
  unfold padL
  rw [co_app]
  by_cases h1 : i < f.length
  · rw [if_pos ⟨by omega, by omega⟩, if_pos h1, Nat.sub_zero]
  · rw [if_neg (by omega), if_neg h1, zeros_co]
/-- blocks of eight bytes in memory that the call owns -/
def Mat8 (W : World) (B gO R : Nat) (Gb : Nat → Nat) (m : Nat → Nat → UInt8) : Prop := Mat W B gO R 8 R Gb (fun _ => 8) m
theorem Mat8.els {W : World} {B gO R : Nat} {Gb : Nat → Nat} {m : Nat → Nat → UInt8} (h : Mat8 W B gO R Gb m) (bs : List (List UInt8)) (hl : bs.length = R) (he : ∀ i, i < R → bi bs i = tab (m i) 8) : RbIs W (some ⟨gO, 0, none⟩) bs R := by
  have h1 := h.lt
  refine ⟨(List.range R).map fun i => .slice (some ⟨Gb i, 0, none⟩) 8 8, ⟨by simp, h.cap.2, (fun e => by cases e), fun h0 => ⟨gO, 0, rfl, h1.2, fun i v hv => ?_⟩⟩, ⟨?_, fun i x hx => ?_⟩⟩
  · have hi := (List.getElem?_eq_some_iff.1 hv).1
    simp at hi
    rw [Nat.zero_add, h.hdr i hi]
    simp [hi] at hv
    rw [hv]
  · simp [hl]
  · have hi := (List.getElem?_eq_some_iff.1 hx).1
    simp at hi
    simp [hi] at hx
    subst hx
    rw [he i hi]
    have hr := (h.row i hi).1.row
    exact ⟨_, _, by rw [tab_length], hr⟩
def bnk (n k : Nat) (Gb : Nat → Nat) : List Value := ((List.range k).map fun i => (.slice (some ⟨Gb i, 0, none⟩) 8 8 : Value)) ++ List.replicate (n - k) (.slice none 0 0)
theorem bnk_set (n k g : Nat) (Gb : Nat → Nat) (h : k < n) : (bnk n k Gb).set k (.slice (some ⟨g, 0, none⟩) 8 8) = bnk n (k + 1) (fun i => if i = k then g else Gb i) := by
  unfold bnk
  refine List.ext_getElem (by simp; omega) fun i h1 h2 => ?_
  simp at h1
  rw [List.getElem_set]
  by_cases e : k = i
  · subst e
    rw [if_pos rfl, List.getElem_append_left (by simp)]
    simp
  · rw [if_neg e]
    by_cases h3 : i < k
    · rw [List.getElem_append_left (by simpa using h3), List.getElem_append_left (by simp; omega)]
      simp [show i ≠ k by omega]
    · rw [List.getElem_append_right (by simpa using h3), List.getElem_append_right (by simp; omega)]
      simp
structure BnkIs (w : World) (n g0 k : Nat) (Gb : Nat → Nat) (wr : World) : Prop where
  own : wr.ownsRow w.heap.size 36 1 (.slice (some ⟨g0, 0, none⟩) n n) n (bnk n k Gb)
  row : ∀ i, i < k → Buf wr (Gb i) 8 (tab (fun _ => 0) 8) ∧ w.heap.size ≤ Gb i
  apart : ∀ i j, i < k → j < k → Gb i = Gb j → i = j
  below : Below w.heap.size w wr
def BnAt (w : World) (n g0 : Nat) (iv : Value) (wr : World) : Prop := ∃ (k : Nat) (Gb : Nat → Nat), k ≤ n ∧ iv = .int .i64 k ∧ BnkIs w n g0 k Gb wr
theorem own_kindB {W : World} {B g0 n : Nat} {xs : List Value} (h : W.ownsRow B 36 1 (.slice (some ⟨g0, 0, none⟩) n n) n xs) {g cap : Nat} {ys : List UInt8} (hb : Buf W g cap ys) : g0 ≠ g := fun e => by
  obtain ⟨cur2, h2⟩ := hb.cells
  rcases h.2 with ⟨h1, _⟩ | ⟨g', cap', cur, h1, _, h3, _⟩
  · cases h1
  · cases h1
    rw [e, h2] at h3
    cases h3
theorem BnkIs.step {w : World} {n g0 k : Nat} {Gb : Nat → Nat} {wr w2 : World} (h : BnkIs w n g0 k Gb wr) (hk : k < n) (hb : Below wr.heap.size wr w2) (g : Nat) (hg : wr.heap.size ≤ g) (hB : Buf w2 g 8 (tab (fun _ => 0) 8)) :
    BnkIs w n g0 (k + 1) (fun i => if i = k then g else Gb i) (w2.setCell ⟨g0, k, none⟩ (.slice (some ⟨g, 0, none⟩) 8 8)) := by
  have hlt := World.ownsRow.lt h.own g0 rfl
  have hown2 : w2.ownsRow w.heap.size 36 1 (.slice (some ⟨g0, 0, none⟩) n n) n (bnk n k Gb) := World.ownsRow.kept (row := none) h.own ⟨hb.os, hb.tape, hb.output, hb.size, fun i hi _ => hb.block i hi⟩ (.inr (by simp [Value.ownBlock]))
  have hs := World.ownsRow.stored hown2 k (.slice (some ⟨g, 0, none⟩) 8 8)
  rw [bnk_set n k g Gb hk] at hs
  have hkeep : ∀ g' cap ys, Buf w2 g' cap ys → Buf (w2.setCell ⟨g0, k, none⟩ (.slice (some ⟨g, 0, none⟩) 8 8)) g' cap ys := fun g' cap ys hb' => World.ownsRow.kept hb' hs.2 (.inr fun e => own_kindB hown2 hb' (Option.some.inj (show some g' = some g0 from e)).symm)
  have hb2 := h.below
  refine ⟨hs.1, fun i hi => ?_, fun i j hi hj e => ?_, ?_⟩
  · by_cases e : i = k
    · subst e
      rw [if_pos rfl]
      exact ⟨hkeep _ _ _ hB, by have := hb2.size; omega⟩
    · rw [if_neg e]
      have hr := h.row i (by omega)
      exact ⟨hkeep _ _ _ (hr.1.later hb), hr.2⟩
  · by_cases ei : i = k
    · by_cases ej : j = k
      · omega
      · rw [if_pos ei, if_neg ej] at e
        have := (h.row j (by omega)).1.lt
        omega
    · by_cases ej : j = k
      · rw [if_neg ei, if_pos ej] at e
        have := (h.row i (by omega)).1.lt
        omega
      · rw [if_neg ei, if_neg ej] at e
        exact h.apart i j (by omega) (by omega) e
  · have h3 := Kit.step hb2 hb
    exact h3.trans (Only.below hs.2 hlt.1 h3.size)
theorem apart_len {W : World} {g c : Nat} {o : Option Addr} {ys z : List UInt8} (hb : Buf W g 8 ys) (hr : RowIs W o (bytesV z) c) (hz : 8 < z.length) : ∀ p, o = some p → p.block ≠ g := fun p e e2 => by
  obtain ⟨b, off, rfl, _, hc⟩ := hr.cells (by simp; omega)
  cases e
  have h1 := hc 8 _ (bytesV_get z 8 hz)
  rcases hb.2 with ⟨h2, _⟩ | ⟨g', cap', cur, h2, _, h3, _, _, h4, _⟩
  · cases h2
  · cases h2
    have e3 : b = g := e2
    subst e3
    unfold World.cell? at h1
    rw [h3] at h1
    have : ¬ off + 8 < cur.size := by omega
    simp [this] at h1
def layM (m : Nat → Nat → UInt8) (z : List UInt8) (j k : Nat) (i b : Nat) : UInt8 := if b = j ∧ i < k then co z i else m i b
theorem layM_step (m : Nat → Nat → UInt8) (z : List UInt8) (j k i b : Nat) : put2 (layM m z j k) k j (co z k) i b = layM m z j (k + 1) i b := by
  unfold put2 layM
  by_cases h : i = k ∧ b = j
  · obtain ⟨rfl, rfl⟩ := h
    rw [if_pos ⟨rfl, rfl⟩, if_pos ⟨rfl, by omega⟩]
  · rw [if_neg h]
    by_cases h2 : b = j ∧ i < k
    · rw [if_pos h2, if_pos ⟨h2.1, by omega⟩]
    · rw [if_neg h2, if_neg (fun h3 => by
        rcases Nat.lt_or_ge i k with h4 | h4
        · exact h2 ⟨h3.1, h4⟩
        · exact h ⟨by omega, h3.1⟩)]
def LyAt (B gO R : Nat) (Gb : Nat → Nat) (m : Nat → Nat → UInt8) (z : List UInt8) (j b1 off1 : Nat) (w : World) (iv : Value) (wr : World) : Prop :=
  ∃ k : Nat, k ≤ z.length ∧ iv = .int .i64 k ∧ Mat8 wr B gO R Gb (layM m z j k) ∧ (∀ i, i < z.length → wr.cell? ⟨b1, off1 + i, none⟩ = some (.int .u8 ((co z i).toNat : Int))) ∧ Below B w wr
/-- a column, as far as it has been read -/
def colAt (bs : List (List UInt8)) (jj n k : Nat) : List UInt8 := tab (fun i => if i < k then colV (bi bs i) jj else 0) n
theorem colAt_zero (bs : List (List UInt8)) (jj n : Nat) : colAt bs jj n 0 = List.replicate n 0 := list_ext (by simp [colAt]) fun i hi => by
  unfold colAt
  rw [co_tab _ _ _ (by simpa [colAt] using hi), if_neg (by omega), zeros_co]
theorem colAt_full (bs : List (List UInt8)) (jj : Nat) : colAt bs jj bs.length bs.length = colB bs jj := list_ext (by simp [colAt]) fun i hi => by
  have hi : i < bs.length := by simpa [colAt] using hi
  unfold colAt
  rw [co_tab _ _ _ hi, if_pos hi, co_colB _ _ _ hi]
theorem colAt_yes (bs : List (List UInt8)) (jj n k : Nat) (hk : k < n) (h : (bi bs k).length = 8) : (colAt bs jj n k).set k (co (bi bs k) jj) = colAt bs jj n (k + 1) := list_ext (by simp [colAt]) fun i hi => by
  have hi : i < n := by simpa [colAt] using hi
  rw [co_set]
  unfold colAt
  rw [co_tab _ _ _ hi, co_tab _ _ _ hi]
  by_cases e : k = i
  · subst e
    rw [if_pos ⟨rfl, by simpa using hi⟩, if_pos (by omega)]
    unfold colV
    rw [if_pos h]
  · rw [if_neg (fun g => e g.1)]
    by_cases h2 : i < k
    · rw [if_pos h2, if_pos (by omega)]
    · rw [if_neg h2, if_neg (by omega)]
theorem colAt_no (bs : List (List UInt8)) (jj n k : Nat) (h : ¬ (bi bs k).length = 8) : colAt bs jj n (k + 1) = colAt bs jj n k := list_ext (by simp [colAt]) fun i hi => by
  have hi : i < n := by simpa [colAt] using hi
  unfold colAt
  rw [co_tab _ _ _ hi, co_tab _ _ _ hi]
  by_cases e : i = k
  · subst e
    rw [if_pos (by omega), if_neg (by omega)]
    unfold colV
    rw [if_neg h]
  · by_cases h2 : i < k
    · rw [if_pos h2, if_pos (by omega)]
    · rw [if_neg h2, if_neg (by omega)]
def ColAt (bs : List (List UInt8)) (jj n : Nat) (w : World) (iv : Value) (wr : World) : Prop :=
  ∃ k : Nat, k ≤ n ∧ iv = .int .i64 k ∧ Buf wr w.heap.size n (colAt bs jj n k) ∧ Below w.heap.size w wr
end Go.Proofs.YtomkkkbdipcjgaaDoor
namespace Go.Proofs.YtomkkkbdipcjgaaDoor
open Go.RowKit
set_option linter.unusedVariables false
set_option linter.unusedSimpArgs false
def pM (D : List (List UInt8)) (k : Nat) (i j : Nat) : UInt8 := if j < k then co (parL (colB D j)) i else 0
theorem pM_step (D : List (List UInt8)) (k i b : Nat) (hi : i < 32) : layM (pM D k) (parL (colB D k)) k 32 i b = pM D (k + 1) i b := by
  unfold layM pM
  by_cases h : b = k
  · subst h
    rw [if_pos ⟨rfl, hi⟩, if_pos (by omega)]
  · rw [if_neg (fun g => h g.1)]
    by_cases h2 : b < k
    · rw [if_pos h2, if_pos (by omega)]
    · rw [if_neg h2, if_neg (by omega)]
def PyAt (D : List (List UInt8)) (gO : Nat) (Gb : Nat → Nat) (w : World) (iv : Value) (wr : World) : Prop :=
  ∃ k : Nat, k ≤ 8 ∧ iv = .int .i64 k ∧ Mat8 wr w.heap.size gO 32 Gb (pM D k) ∧ Below w.heap.size w wr
theorem Mat8.later {W W' : World} {B gO R : Nat} {Gb : Nat → Nat} {m : Nat → Nat → UInt8} (h : Mat8 W B gO R Gb m) (hb : Below W.heap.size W W') : Mat8 W' B gO R Gb m := Mat.later h hb
theorem Mat8.congr {W : World} {B gO R : Nat} {Gb : Nat → Nat} {m m' : Nat → Nat → UInt8} (h : Mat8 W B gO R Gb m) (he : ∀ i j, i < R → j < 8 → m i j = m' i j) : Mat8 W B gO R Gb m' := Mat.congr h he
theorem pM_bi (D : List (List UInt8)) (i : Nat) (h : i < 32) : bi (parB D) i = tab (pM D 8 i) 8 := by
  rw [bi_parB _ _ h]
  refine list_ext (by simp) fun j hj => ?_
  have hj : j < 8 := by simpa using hj
  rw [co_tab _ _ _ hj, co_tab _ _ _ hj]
  unfold pM
  rw [if_pos hj]
/-- lists one behind the other -/
def catB (F : Nat → List (List UInt8)) : Nat → List (List UInt8)
  | 0 => []
  | k + 1 => catB F k ++ F k
/-- how long they are -/
def lenB (F : Nat → List (List UInt8)) : Nat → Nat
  | 0 => 0
  | k + 1 => lenB F k + (F k).length
theorem catB_length (F : Nat → List (List UInt8)) (k : Nat) : (catB F k).length = lenB F k := by
  induction k with
  | zero => rfl
  | succ k ih => simp [catB, lenB, ih]
theorem lenB_mono (F : Nat → List (List UInt8)) (k d : Nat) : lenB F k ≤ lenB F (k + d) := by
  induction d with
  | zero => exact Nat.le_refl _
  | succ d ih => exact Nat.le_trans ih (Nat.le_add_right _ _)
/-- the parts lie one behind the other in block A -/
structure PartsB (w : World) (A n : Nat) (F : Nat → List (List UInt8)) : Prop where
  lt : A < w.heap.size
  at_ : ∀ i, i < n → ∃ p q, w.cell? ⟨A, i, none⟩ = some (.slice p (F i).length q) ∧ RbIs w p (F i) q
theorem PartsB.later {W W' : World} {A n : Nat} {F : Nat → List (List UInt8)} (h : PartsB W A n F) (hb : Below W.heap.size W W') : PartsB W' A n F :=
  ⟨Nat.lt_of_lt_of_le h.lt hb.size, fun i hi => by
    obtain ⟨p, q, h1, h2⟩ := h.at_ i hi
    exact ⟨p, q, by rw [hb.cell (p := ⟨A, i, none⟩) h.lt]; exact h1, h2.later hb⟩⟩
def CxAt (F : Nat → List (List UInt8)) (n : Nat) (w : World) (s iv : Value) (wr : World) : Prop :=
  ∃ k : Nat, k ≤ n ∧ iv = .int .i64 k ∧ s = .int .i64 (lenB F k : Nat) ∧ wr = w
def CyAt (F : Nat → List (List UInt8)) (n : Nat) (w : World) (v iv : Value) (wr : World) : Prop :=
  ∃ (k : Nat) (xs : List Value), k ≤ n ∧ iv = .int .i64 k ∧ wr.ownsRow w.heap.size 36 1 v (lenB F k) xs ∧ ElsB w.heap.size wr (catB F k) xs ∧ Below w.heap.size w wr
end Go.Proofs.YtomkkkbdipcjgaaDoor
namespace Go.Proofs.YtomkkkbdipcjgaaDoor
open Go.RowKit Go.Shelf
set_option linter.unusedVariables false
set_option linter.unusedSimpArgs false
attribute [local go_sem] Oper.semAt_some
theorem blk_part (p : List UInt8) (s : Nat) (h : 8 * s + 8 ≤ p.length) : ((bytesV p).drop (8 * s)).take 8 = bytesV (blk p s) := by
  refine List.ext_getElem? fun i => ?_
  by_cases hi : i < 8
  · rw [List.getElem?_take_of_lt hi, List.getElem?_drop, bytesV_get p (8 * s + i) (by omega), bytesV_get _ i (by simpa using hi)]
    have := co_blk p s i hi
    unfold co at this
    rw [this]
  · rw [List.getElem?_eq_none (by simp; omega), List.getElem?_eq_none (by simp; omega)]
theorem opIn_append {P : Program} {ops : Array Oper} {Q : Exit → Act → World → Prop} {K : Act → World → Prop} {a : Act} {w : World} {o : Oper} (hg : o.guard = none) (s x : Operand) (t tn : TypeId)
    (hop : o.op = .call { callee := .builtin .append, args := #[s, x], argTypes := #[t, tn] }) (vs vx : Value) (hs : a.eval s = vs) (hx : a.eval x = vx) (v' : Value) (w' : World)
    (hr : (Builtin.append_ #[t, tn] o.type #[vs, vx]).run P w = .ok v' w') (h : K (a.put o.dst v') w') :
    if Region.wanted o (yielded ops a.tmps) = true then Oper.wpIn Fence.wide 0 P o a w K Q else (∀ f, o.about P w a.eval = some f → Fence.wide.fn f) ∧ K (a.put o.dst undef) w := by
  have hw : Region.wanted o (yielded ops a.tmps) = true := by simp [Region.wanted, hg]
  rw [if_pos hw]
  refine ⟨fun _ _ => trivial, ?_⟩
  rw [Fence.wide_round, Oper.semAt_none]
  unfold execOp
  simp only [hop, resolve, invoke, builtin, Sem.run_bind, Sem.run_pure, Result.andThen_ok, List.map_toArray, List.map_cons, List.map_nil, hs, hx, hr]
  exact h
/-- what lay below, but block b, lies as it lay -/
structure Rst (b : Nat) (w X : World) : Prop where
  os : X.os = w.os
  tape : X.tape = w.tape
  output : X.output = w.output
  size : w.heap.size ≤ X.heap.size
  same : ∀ k, k < w.heap.size → k ≠ b → X.heap[k]? = w.heap[k]?
theorem Rst.refl (b : Nat) (w : World) : Rst b w w := ⟨rfl, rfl, rfl, Nat.le_refl _, fun _ _ _ => rfl⟩
theorem Rst.nc {b : Nat} {w X X' : World} (h : Rst b w X) (k : Rf.NC w.heap.size X X') : Rst b w X' :=
  ⟨k.os.trans h.os, k.tape.trans h.tape, k.output.trans h.output, Nat.le_trans h.size k.size, fun i hi hne => by
    have h1 := h.same i hi hne
    rw [← h1]
    have hlt : i < X.heap.size := Nat.lt_of_lt_of_le hi h.size
    rw [Array.getElem?_eq_getElem hlt]
    exact k.same i _ (Array.getElem?_eq_getElem hlt) (.inr hi)⟩
theorem Rst.grown {b : Nat} {w X X' : World} {r : Option Nat} (h : Rst b w X) (hg : X.grownBy X' r) (hr : ∀ k, r = some k → k = b ∨ w.heap.size ≤ k) : Rst b w X' :=
  ⟨hg.os.trans h.os, hg.tape.trans h.tape, hg.output.trans h.output, Nat.le_trans h.size hg.size, fun i hi hne => by
    rw [← h.same i hi hne]
    exact hg.block i (Nat.lt_of_lt_of_le hi h.size) fun e => by
      rcases hr i e.symm with h1 | h1
      · exact hne h1
      · omega⟩
theorem Rst.later {b : Nat} {w X X' : World} (h : Rst b w X) (hb : Below X.heap.size X X') : Rst b w X' := h.grown (r := none) ⟨hb.os, hb.tape, hb.output, hb.size, fun k hk _ => hb.block k hk⟩ (fun k e => by cases e)
theorem Rst.boxed {b k : Nat} {t : TypeId} {v : Value} {w X : World} (h : Rst b w X) (hx : Boxed w k t v) (hne : k ≠ b) : Boxed X k t v := by
  unfold Boxed at *
  rw [h.same k (Array.getElem?_eq_some_iff.1 hx).1 hne]; exact hx
theorem Rst.row {b : Nat} {w X : World} (h : Rst b w X) {o : Option Addr} {vs : List Value} {c : Nat} (hr : RowIs w o vs c) (hne : 0 < vs.length → ∀ p, o = some p → p.block ≠ b) : RowIs X o vs c :=
  ⟨hr.le, hr.cap, hr.nil, fun h0 => by
    obtain ⟨p, off, e, hlt, hc⟩ := hr.cells h0
    refine ⟨p, off, e, Nat.lt_of_lt_of_le hlt h.size, fun i v hv => ?_⟩
    have := hc i v hv
    unfold World.cell? at *
    rw [h.same p hlt (hne h0 _ e)]
    exact this⟩
theorem Rst.below {b n : Nat} {w0 w X : World} (h : Rst b w X) (hb : Below n w0 w) (hn : n ≤ b) (hn2 : n ≤ w.heap.size) : Below n w0 X :=
  hb.trans ⟨h.os, h.tape, h.output, h.size, fun k hk => h.same k (by omega) (by omega)⟩
theorem ElsB.nc {B base : Nat} {X X' : World} {bs : List (List UInt8)} {xs : List Value} (h : ElsB base X bs xs) (k : Rf.NC B X X') : ElsB base X' bs xs :=
  ⟨⟨h.els.len, fun i x hx => by
    obtain ⟨o, c, e, hr⟩ := h.els.at_ i x hx
    exact ⟨o, c, e, hr.nc k⟩⟩, fun x hx ad l c e h0 => by
    rcases h.kind x hx ad l c e h0 with h1 | ⟨cur, h1⟩
    · exact .inl h1
    · exact .inr ⟨cur, k.cells h1⟩⟩
end Go.Proofs.YtomkkkbdipcjgaaDoor
namespace Go.Proofs.YtomkkkbdipcjgaaDoor
open Go.RowKit
set_option linter.unusedVariables false
set_option linter.unusedSimpArgs false
theorem szG_mem (l : List Nat) (k : Nat) (h : k < l.length) : szG l k ∈ l := by
  unfold szG
  rw [List.getD_eq_getElem?_getD, List.getElem?_eq_getElem h]
  exact List.getElem_mem h
theorem dat_part (p : List UInt8) (a n k : Nat) (h : k ≤ n) : (dat p a n).take k = dat p a k ∧ (dat p a n).drop k = dat p (a + k) (n - k) := by
  obtain ⟨d, rfl⟩ : ∃ d, n = k + d := ⟨n - k, by omega⟩
  rw [dat_app]
  have hl : (dat p a k).length = k := dat_length _ _ _
  constructor
  · rw [List.take_left' hl]
  · rw [List.drop_left' hl, show k + d - k = d by omega]
theorem RbIs.take {W : World} {o : Option Addr} {bs : List (List UInt8)} {c : Nat} (h : RbIs W o bs c) (k : Nat) (hk : k ≤ bs.length) : RbIs W o (bs.take k) c := by
  obtain ⟨xs, h1, h2⟩ := h
  have hl := h2.len
  have hle := h1.le
  refine ⟨xs.take k, ⟨by simp; omega, h1.cap, h1.nil, fun h0 => ?_⟩, ?_⟩
  · obtain ⟨b, off, e, hlt, hc⟩ := h1.cells (by simp at h0; omega)
    refine ⟨b, off, e, hlt, fun i v hv => hc i v ?_⟩
    have hi := (List.getElem?_eq_some_iff.1 hv).1
    simp at hi
    rw [← hv, List.getElem?_take_of_lt (by omega)]
  · have := h2.part 0 k
    rw [List.drop_zero, List.drop_zero] at this
    exact this
theorem RbIs.drop {W : World} {b off : Nat} {bs : List (List UInt8)} {c : Nat} (h : RbIs W (some ⟨b, off, none⟩) bs c) (k : Nat) (hk : k ≤ bs.length) : RbIs W (some ⟨b, off + k, none⟩) (bs.drop k) (c - k) := by
  have h1 := h.le
  have h2 := h.part k (bs.length - k) (by omega) (c - k) (by omega) (by omega)
  rw [List.take_of_length_le (by simp)] at h2
  exact h2
def F3 (a b c : List (List UInt8)) (i : Nat) : List (List UInt8) := if i = 0 then a else if i = 1 then b else c
theorem catB_three (a b c : List (List UInt8)) : catB (F3 a b c) 3 = a ++ (b ++ c) := by simp [catB, F3]
theorem lenB_three (a b c : List (List UInt8)) : lenB (F3 a b c) 3 = a.length + b.length + c.length := by simp [lenB, F3]
def CbkAt (p : List UInt8) (l : List Nat) (m : Nat) (w : World) (v6 v7 iv : Value) (wr : World) : Prop :=
  ∃ k : Nat, k ≤ l.length ∧ iv = .int .i64 k ∧ RbV (grps p 0 (l.take k)) v6 wr ∧ RbV (dat p (sumN (l.take k)) (m - sumN (l.take k))) v7 wr ∧ Below w.heap.size w wr
end Go.Proofs.YtomkkkbdipcjgaaDoor
