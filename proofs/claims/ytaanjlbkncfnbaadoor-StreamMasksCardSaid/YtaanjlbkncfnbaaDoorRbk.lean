/- The document's padded file; SameLists. The document's Blocks: all blocks of a file. -/
import Derived.Test.YtaanjlbkncfnbaaDoorBc
import Derived.Test.YtaanjlbkncfnbaaDoorOf
namespace Go.Proofs.YtaanjlbkncfnbaaDoor
open Go.RowKit
set_option linter.unusedVariables false
set_option linter.unusedSimpArgs false
theorem zero_row (w : World) : RowIs (w.alloc (.cells #[.int .u8 0] 5)) (some ⟨w.heap.size, 0, none⟩) (bytesV [0]) 1 :=
  row_cells (z := [0]) (World.alloc_heap_new w _) (by unfold maxLen; simp)
theorem byte_row (w : World) (x : UInt8) : RowIs (w.alloc (.cells #[.int .u8 (x.toNat : Int)] 5)) (some ⟨w.heap.size, 0, none⟩) (bytesV [x]) 1 :=
  row_cells (z := [x]) (World.alloc_heap_new w _) (by unfold maxLen; simp)
def slen (v : Value) : Nat := match v with
  | .slice _ l _ => l
  | _ => 0
def RpAt (f : List UInt8) (N : Nat) (w : World) (v : Value) (wr : World) : Prop :=
  ∃ d L : Nat, L = f.length + d ∧ L ≤ N ∧ wr.ownsRow w.heap.size 5 1 v L (bytesV (f ++ List.replicate d 0)) ∧ Below w.heap.size w wr
def SlAt (n : Nat) (w : World) (iv : Value) (wr : World) : Prop := ∃ k : Nat, k ≤ n ∧ iv = .int .i64 k ∧ Kit.Dn w wr
set_option maxRecDepth 100000 in
set_option maxHeartbeats 1000000 in
theorem same_lists (bs : List (List UInt8)) (o o2 : Option Addr) (n c c2 : Nat) (w : World) (h1 : RbIs w o bs c) (h2 : RbIs w o2 bs c2) (hn : bs.length = n) :
    Calls Tryd.prog 17 #[.slice o n c, .slice o2 n c2] w fun e w' => e = .returned (.bool true) ∧ Kit.Dn w w' := by
  have ha := h1.le.1
  have hb := h1.le.2
  have hc := h2.le.1
  have hd := h2.le.2
  rw [hn] at ha hc
  unfold maxLen at hb hd
  have H1 := Lib.hid h1
  have H2 := Lib.hid h2
  have HN := Lib.hid hn
  clear h1 h2 hn
  go_enter Tryd.func17, Tryd.ntmps17
  go_wp2_with fail
  go_loopw [5, 13] (fun _ iv wr => SlAt n w iv wr) (fun _ iv _ => n - (intOf iv).toNat)
  case atStart => exact ⟨0, Nat.zero_le _, rfl, Kit.Dn.refl _⟩
  case round =>
    obtain ⟨k, hk, rfl, hdn⟩ := hrel
    have HD := Lib.hid hdn
    by_cases hlt : k < n
    · obtain ⟨b1, off1, p1, q1, rfl, _, hc1, hr1⟩ := (H1.out.later hdn.below).cell k (by have := HN.out; omega)
      obtain ⟨b2, off2, p2, q2, rfl, _, hc2, hr2⟩ := (H2.out.later hdn.below).cell k (by have := HN.out; omega)
      have k1 : ∀ nq, (convert 22 9 (.slice p1 (bi bs k).length q1)).run Tryd.prog (wr.drewN nq) = .ok (.string ⟨(bi bs k).toArray⟩) (wr.drewN nq) := fun nq =>
        run_string (hr1.later (Kit.dn' wr nq)) Tryd.underlying22 Tryd.underlying5 Tryd.underlying9 _
      have k2 : ∀ nq, (convert 22 9 (.slice p2 (bi bs k).length q2)).run Tryd.prog (wr.drewN nq) = .ok (.string ⟨(bi bs k).toArray⟩) (wr.drewN nq) := fun nq =>
        run_string (hr2.later (Kit.dn' wr nq)) Tryd.underlying22 Tryd.underlying5 Tryd.underlying9 _
      have hk0 : (0 : Int) ≤ (k : Int) := by omega
      have hk1 : (k : Int) < (n : Int) := by omega
      generalize (bi bs k).length = L at *
      generalize (⟨(bi bs k).toArray⟩ : ByteArray) = s at *
      clear hr1 hr2 hdn
      go_wp2_with fail
      go_quiet (fail)
      go_wp2_with fail
      go_roundw
      case rel => exact ⟨k + 1, by omega, by go_num, HD.out.add _⟩
      case measure => simp [intOf]; omega
    · obtain rfl : k = n := by omega
      clear hdn
      go_wp2_with fail
      go_ret
      exact ⟨rfl, HD.out⟩
end Go.Proofs.YtaanjlbkncfnbaaDoor
namespace Go.Proofs.YtaanjlbkncfnbaaDoor
open Go.RowKit
set_option linter.unusedVariables false
set_option linter.unusedSimpArgs false
def zarr : Array Value := Array.replicate 8 (.slice none 0 0)
theorem zarr_one : zarr.all (·.oneCell') = true := by kernel_rfl
/-- a row of bytes in a block of bytes -/
def RowK (z : List UInt8) (x : Value) (W : World) : Prop := RowV z x W ∧ ∃ g off l q cur, x = .slice (some ⟨g, off, none⟩) l q ∧ W.heap[g]? = some (.cells cur 5 (0, 0))
theorem RowK.later {z : List UInt8} {x : Value} {W W' : World} (h : RowK z x W) (hb : Below W.heap.size W W') : RowK z x W' := by
  obtain ⟨h1, g, off, l, q, cur, e, h2⟩ := h
  exact ⟨h1.later hb, g, off, l, q, cur, e, by rw [hb.block g (Array.getElem?_eq_some_iff.1 h2).1]; exact h2⟩
theorem RowK.grown {z : List UInt8} {x : Value} {W W' : World} {r : Option Nat} (h : RowK z x W) (hg : W.grownBy W' r) (hr : ∀ k, r = some k → ∃ cur T f, W.heap[k]? = some (.cells cur T f) ∧ T ≠ 5) : RowK z x W' := by
  obtain ⟨⟨o, c, e1, h1⟩, g, off, l, q, cur, rfl, h2⟩ := h
  cases e1
  have hgl := (Array.getElem?_eq_some_iff.1 h2).1
  have hne : some g ≠ r := fun e => by
    obtain ⟨cur', T, f, h3, h4⟩ := hr g e.symm
    rw [h2] at h3
    injection h3 with h3
    injection h3 with _ h3 _
    exact h4 h3.symm
  have hb := hg.block g hgl hne
  refine ⟨⟨_, _, rfl, h1.le, h1.cap, h1.nil, fun h0 => ?_⟩, g, off, _, _, cur, rfl, by rw [hb]; exact h2⟩
  obtain ⟨b', off', e, hlt, hc⟩ := h1.cells h0
  cases e
  refine ⟨g, off, rfl, Nat.lt_of_lt_of_le hgl hg.size, fun i v hv => ?_⟩
  have := hc i v hv
  unfold World.cell? at *
  rw [hb]; exact this
theorem blk_drop (p : List UInt8) (A j : Nat) : blk (p.drop (8 * A)) j = blk p (A + j) := by
  refine list_ext (by simp) fun i hi => ?_
  have hi : i < 8 := by simpa using hi
  rw [co_blk _ _ _ hi, co_blk _ _ _ hi]
  unfold co
  rw [List.getD_eq_getElem?_getD, List.getD_eq_getElem?_getD, List.getElem?_drop]
  congr 2; omega
theorem co_dropB (p : List UInt8) (n i : Nat) : co (p.drop n) i = co p (n + i) := by
  unfold co
  rw [List.getD_eq_getElem?_getD, List.getD_eq_getElem?_getD, List.getElem?_drop]
/-- the column, as far as it has been laid -/
def clm (p : List UInt8) (A j i : Nat) : List UInt8 := tab (fun t => co p (8 * (A + t) + j)) i
theorem clm_succ (p : List UInt8) (A j i : Nat) : clm p A j i ++ [co p (8 * (A + i) + j)] = clm p A j (i + 1) := tab_succ _ _
theorem clm_full (p : List UInt8) (A j s : Nat) (hj : j < 8) : clm p A j s = colB (dat p A s) j := by
  refine list_ext (by simp [clm]) fun i hi => ?_
  have hi : i < s := by simpa [clm] using hi
  unfold clm
  rw [co_tab _ _ _ hi, co_colB _ _ _ (by simpa using hi), bi_dat _ _ _ _ hi]
  unfold colV
  rw [if_pos (blk_length _ _), co_blk _ _ _ hj]
/-- a parity block, as far as it has been laid -/
def pbk (D : List (List UInt8)) (i j : Nat) : List UInt8 := tab (fun t => co (parL (colB D t)) i) j
theorem pbk_succ (D : List (List UInt8)) (i j : Nat) : pbk D i j ++ [co (parL (colB D j)) i] = pbk D i (j + 1) := tab_succ _ _
theorem parB_take (D : List (List UInt8)) (i : Nat) (h : i < 32) : (parB D).take i ++ [pbk D i 8] = (parB D).take (i + 1) := by
  rw [List.take_add_one, List.getElem?_eq_getElem (by simpa using h)]
  simp [parB, pbk]
structure OutI (w : World) (bs : List (List UInt8)) (v7 : Value) (n : Nat) (xs : List Value) (wr : World) : Prop where
  own : wr.ownsRow w.heap.size 22 1 v7 n xs
  els : ElsB 0 wr bs xs
  below : Below w.heap.size w wr
theorem OutI.later {w wr wr' : World} {bs : List (List UInt8)} {v7 : Value} {n : Nat} {xs : List Value} (h : OutI w bs v7 n xs wr) (hb : Below wr.heap.size wr wr') : OutI w bs v7 n xs wr' :=
  ⟨World.ownsRow.kept (row := none) h.own ⟨hb.os, hb.tape, hb.output, hb.size, fun i hi _ => hb.block i hi⟩ (by cases v7.ownBlock <;> simp), h.els.later hb, Kit.step h.below hb⟩
/-- a block more -/
theorem OutI.add {w wr w' : World} {bs : List (List UInt8)} {b : List UInt8} {v7 v' : Value} {n g cap l : Nat} {xs : List Value} (h : OutI w bs v7 n xs wr) (hb : Buf wr g cap b) (hl : b.length = l)
    (hown : w'.ownsRow w.heap.size 22 1 v' (n + 1) (xs ++ [.slice (some ⟨g, 0, none⟩) l cap])) (hg : wr.grownBy w' v7.ownBlock) : OutI w (bs ++ [b]) v' (n + 1) (xs ++ [.slice (some ⟨g, 0, none⟩) l cap]) w' := by
  subst hl
  exact ⟨hown, (h.els.app (ElsB.one ⟨_, cap, rfl, hb.row⟩ (hb.kind 0))).grown h.own hg (Nat.zero_le _), own_belowB h.below h.own hg⟩
theorem hdr_row (w : World) (x : Value) : RowIs (w.alloc (.cells #[x] 22)) (some ⟨w.heap.size, 0, none⟩) [x] 1 :=
  ⟨Nat.le_refl _, by unfold maxLen; omega, (fun e => by cases e), fun _ => ⟨w.heap.size, 0, rfl, by simp, fun i v hv => by
    match i, hv with
    | 0, hv =>
      rw [cell_new _ _ _ _ rfl]
      exact hv
    | i + 1, hv => simp at hv⟩⟩
def RkAt (p : List UInt8) (l : List Nat) (w : World) (v6 v7 iv : Value) (wr : World) : Prop :=
  ∃ (k A n : Nat) (xs : List Value), k ≤ l.length ∧ A = sumN (l.take k) ∧ iv = .int .i64 k ∧ RowV (p.drop (8 * A)) v6 w ∧ n = (grps p 0 (l.take k)).length ∧ OutI w (grps p 0 (l.take k)) v7 n xs wr
def R2At (G : List (List UInt8)) (p : List UInt8) (A s : Nat) (w : World) (v7 jv : Value) (wr : World) : Prop :=
  ∃ (j n : Nat) (xs : List Value), j ≤ s ∧ jv = .int .i64 j ∧ n = G.length + j ∧ OutI w (G ++ dat p A j) v7 n xs wr
theorem RowIs.dropB {W : World} {b off : Nat} {z : List UInt8} {c : Nat} (h : RowIs W (some ⟨b, off, none⟩) (bytesV z) c) (k : Nat) (hk : k ≤ z.length) : RowIs W (some ⟨b, off + k, none⟩) (bytesV (z.drop k)) (c - k) := by
  have h1 := h.le
  have h2 := h.cap
  rw [bytesV_length] at h1
  have h3 := h.part k (z.length - k) (by rw [bytesV_length]; omega) (c - k) (by omega) (by omega)
  have e : ((bytesV z).drop k).take (z.length - k) = bytesV (z.drop k) := by
    unfold bytesV
    rw [List.map_drop, List.take_of_length_le (by simp)]
  rwa [e] at h3
def R4At (p : List UInt8) (A t s : Nat) (w : World) (v iv : Value) (wr : World) : Prop :=
  ∃ i : Nat, i ≤ s ∧ iv = .int .i64 i ∧ wr.ownsRow w.heap.size 5 1 v i (bytesV (clm p A t i)) ∧ Below w.heap.size w wr
def R6At (D : List (List UInt8)) (i : Nat) (w : World) (v tv : Value) (wr : World) : Prop :=
  ∃ t : Nat, t ≤ 8 ∧ tv = .int .i64 t ∧ wr.ownsRow w.heap.size 5 1 v t (bytesV (pbk D i t)) ∧ Below w.heap.size w wr
end Go.Proofs.YtaanjlbkncfnbaaDoor
