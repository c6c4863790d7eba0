/- A hash: New, Put, Count, end, Sum, Of: the code's. A hash: New, end, Sum, Of: the code's. A hash: Sum, Of: the code's. sha.Of: the code's. -/
import Derived.Test.YtomkkkbdipcjgaaDoorHq
import Derived.Test.YtomkkkbdipcjgaaDoorQt
import Derived.Laws.CopyOwn
import Derived.Deep.Cut
import Derived.Deep.CutBlock
import Derived.Maps.AppendAt
import Derived.OwnWalk
import Derived.Great.BuildSlice
import Derived.Test.YtomkkkbdipcjgaaDoorMt
namespace Go.Proofs.YtomkkkbdipcjgaaDoor
open Go.RowKit
set_option linter.unusedVariables false
set_option linter.unusedSimpArgs false
/-- a hash's cells -/
def hcs (st : List UInt32) (rs : List UInt8) (n : Nat) : List Value := u32V st ++ (bytesV rs ++ [.int .i64 (n : Int)])
theorem hcs_length {st : List UInt32} {rs : List UInt8} (n : Nat) (h : st.length = 8) (k : rs.length = 64) : (hcs st rs n).length = 73 := by simp [hcs, h, k]
theorem hcs_count {st : List UInt32} {rs : List UInt8} (n : Nat) (h : st.length = 8) (k : rs.length = 64) : (hcs st rs n)[72]? = some (.int .i64 (n : Int)) := by
  unfold hcs
  rw [List.getElem?_append_right (by simp [h]), List.getElem?_append_right (by simp [h, k])]
  simp [h, k]
theorem hcs_state {st : List UInt32} {rs : List UInt8} (n : Nat) (h : st.length = 8) : ∀ j v, (u32V st)[j]? = some v → (hcs st rs n)[0 + j]? = some v := fun j v hv => by
  have hj : j < (u32V st).length := (List.getElem?_eq_some_iff.1 hv).1
  unfold hcs
  rw [Nat.zero_add, List.getElem?_append_left hj]; exact hv
theorem hcs_rest {st : List UInt32} {rs : List UInt8} (n : Nat) (h : st.length = 8) : ∀ j v, (bytesV rs)[j]? = some v → (hcs st rs n)[8 + j]? = some v := fun j v hv => by
  have hj : j < (bytesV rs).length := (List.getElem?_eq_some_iff.1 hv).1
  unfold hcs
  rw [List.getElem?_append_right (by simp [h]), show 8 + j - (u32V st).length = j by simp [h], List.getElem?_append_left hj]; exact hv
theorem hcs_set {st : List UInt32} {rs : List UInt8} (n m : Nat) (h : st.length = 8) (k : rs.length = 64) : (hcs st rs n).set 72 (.int .i64 (m : Int)) = hcs st rs m := by
  unfold hcs
  rw [List.set_append_right _ _ (by simp [h]), List.set_append_right _ _ (by simp [h, k])]
  simp [h, k]
theorem hcs_laid {st st' : List UInt32} {rs : List UInt8} (n : Nat) (h : st.length = 8) (h' : st'.length = 8) : laid (hcs st rs n) 0 (u32V st') = hcs st' rs n := by
  unfold laid hcs
  simp only [List.take_zero, List.nil_append, Nat.zero_add]
  rw [List.drop_left' (by simp [h, h'])]
theorem hcs_over {st : List UInt32} {rs : List UInt8} (n m : Nat) (r : List UInt8) (h : st.length = 8) (k : rs.length = 64) (hm : m + r.length ≤ 64) :
    (hcs st rs n).take (8 + m) ++ (bytesV r ++ (hcs st rs n).drop (8 + m + (bytesV r).length)) = hcs st (Da.over rs m r) n := by
  unfold hcs Da.over
  rw [List.take_append, List.drop_append]
  rw [List.take_of_length_le (by simp [h]), List.drop_eq_nil_of_le (by simp [h]; omega)]
  simp only [u32V_length, h, bytesV_length, List.nil_append]
  rw [show 8 + m - 8 = m by omega, show 8 + m + r.length - 8 = m + r.length by omega]
  rw [List.take_append_of_le_length (by simp [k]; omega), List.drop_append_of_le_length (by simp [k]; omega)]
  simp [bytesV, List.map_take, List.map_drop]
theorem Arr.kept {W W' : World} {b : Nat} {T : TypeId} {xs : List Value} {row : Option Nat} (h : Arr W b T xs) (hg : W.grownBy W' row) (hne : some b ≠ row) : Arr W' b T xs := by
  unfold Arr
  rw [hg.block b h.lt hne]; exact h
theorem grown_below {W W' : World} {B : Nat} {row : Option Nat} (hb : Below W.heap.size W W') : W.grownBy W' row := ⟨hb.os, hb.tape, hb.output, hb.size, fun k hk _ => hb.block k hk⟩
theorem below_grown {B b : Nat} {W0 W W' : World} (hb : Below B W0 W) (hg : W.grownBy W' (some b)) (hB : B ≤ b) (hs : B ≤ W.heap.size) : Below B W0 W' :=
  ⟨hg.os.trans hb.os, hg.tape.trans hb.tape, hg.output.trans hb.output, Nat.le_trans hb.size hg.size, fun k hk => (hg.block k (by omega) (fun e => by cases e; omega)).trans (hb.block k hk)⟩
theorem RowIs.kept {W W' : World} {o : Option Addr} {vs : List Value} {c : Nat} {row : Option Nat} (h : RowIs W o vs c) (hg : W.grownBy W' row) (hne : 0 < vs.length → ∀ ad, o = some ad → some ad.block ≠ row) : RowIs W' o vs c :=
  ⟨h.le, h.cap, h.nil, fun h0 => by
    obtain ⟨b, off, e, hlt, hc⟩ := h.cells h0
    exact ⟨b, off, e, Nat.lt_of_lt_of_le hlt hg.size, fun i v hv => by
      rw [World.cell?_of_block (hg.block b hlt (hne h0 _ e))]; exact hc i v hv⟩⟩
theorem Var.kept {W W' : World} {n : Nat} {xs : List UInt32} {row : Option Nat} (h : Var W n xs) (hg : W.grownBy W' row) (hne : some n ≠ row) : Var W' n xs :=
  ⟨Nat.lt_of_lt_of_le h.lt hg.size, fun j v hv => by rw [World.cell?_of_block (hg.block n h.lt hne)]; exact h.at_ j v hv⟩
theorem grown_set {W : World} {b : Nat} {T : TypeId} {xs : List Value} (h : Arr W b T xs) (i : Nat) (v : Value) : W.grownBy (W.setCell ⟨b, i, none⟩ v) (some b) := by
  rw [setCell_eq_setRow W b i _ _ _ v h]
  exact ⟨rfl, rfl, rfl, by simp [World.setRow], fun k hk hn => setRow_other _ _ _ _ (fun e => hn (by rw [e]))⟩
theorem grown_row {W : World} {b : Nat} (cs : Array Value) : W.grownBy (W.setRow b cs) (some b) :=
  ⟨rfl, rfl, rfl, by simp [World.setRow], fun k hk hn => setRow_other _ _ _ _ (fun e => hn (by rw [e]))⟩
theorem grown_sets {b : Nat} {T : TypeId} : ∀ (vs : List Value) (o : Nat) {W : World} {xs : List Value}, Arr W b T xs → W.grownBy (W.setCells b o vs) (some b)
  | [], o, W, xs, h => ⟨rfl, rfl, rfl, Nat.le_refl _, fun _ _ _ => rfl⟩
  | v :: vs, o, W, xs, h => by
    rw [World.setCells]
    exact (grown_set h o v).trans (grown_sets vs (o + 1) (h.set o v))
def slLen : Value → Nat
  | .slice _ n _ => n
  | _ => 0
end Go.Proofs.YtomkkkbdipcjgaaDoor
namespace Go.Proofs.YtomkkkbdipcjgaaDoor
open Go.RowKit
set_option linter.unusedVariables false
set_option linter.unusedSimpArgs false
theorem arr_of_own {W : World} {base : Nat} {T : TypeId} {g n : Nat} {xs : List Value} (h : W.ownsRow base T 1 (.slice (some ⟨g, 0, none⟩) n n) n xs) : Arr W g T xs ∧ base ≤ g := by
  obtain ⟨h1, h2 | ⟨g', cap, cur, e, hb, hg, hn, hc, hs, ht⟩⟩ := h
  · cases h2.1
  · cases e
    refine ⟨?_, hb⟩
    unfold Arr
    rw [hg, ← ht, List.take_of_length_le (by simp [hs])]
theorem made_bytes (n : Nat) : (madeCells #[.int .u8 0] n).toList = bytesV (List.replicate n 0) := by
  rw [toList_madeCells_one]
  simp [bytesV]
theorem Arr.row {W : World} {g : Nat} {T : TypeId} {z : List UInt8} (h : Arr W g T (bytesV z)) (hl : z.length ≤ maxLen) : RowIs W (some ⟨g, 0, none⟩) (bytesV z) z.length :=
  ⟨by simp, hl, fun h => by (cases h), fun h0 => ⟨g, 0, rfl, h.lt, fun i v hv => by rw [Nat.zero_add, h.cell]; exact hv⟩⟩
/-- what is laid behind the bytes, the first so many of its last bytes -/
def en (n j : Nat) : List UInt8 := (List.range (Da.zn n + 9)).map fun p => if p = 0 then 128 else if Da.zn n + 8 - p < j then UInt8.ofNat (8 * n / 256 ^ (Da.zn n + 8 - p)) else 0
theorem en_length (n j : Nat) : (en n j).length = Da.zn n + 9 := by simp [en]
theorem en_zero (n : Nat) : (List.replicate (Da.zn n + 9) (0 : UInt8)).set 0 128 = en n 0 := by
  refine List.ext_getElem (by simp [en]) fun p h1 h2 => ?_
  simp only [en, List.getElem_set, List.getElem_map, List.getElem_range, Nat.not_lt_zero, if_false, List.getElem_replicate]
  by_cases e : p = 0
  · subst e; simp
  · rw [if_neg (fun h => e h.symm), if_neg e]
theorem en_step (n j : Nat) (hj : j < 8) : (en n j).set (Da.zn n + 8 - j) (UInt8.ofNat (8 * n / 256 ^ j)) = en n (j + 1) := by
  refine List.ext_getElem (by simp [en]) fun p h1 h2 => ?_
  simp only [en, List.getElem_set, List.getElem_map, List.getElem_range]
  have hp : p < Da.zn n + 9 := by simpa [en] using h2
  by_cases e : Da.zn n + 8 - j = p
  · subst e
    rw [if_pos rfl, if_neg (by omega), if_pos (by omega), show Da.zn n + 8 - (Da.zn n + 8 - j) = j by omega]
  · rw [if_neg e]
    by_cases e0 : p = 0
    · rw [if_pos e0, if_pos e0]
    · rw [if_neg e0, if_neg e0]
      by_cases e2 : Da.zn n + 8 - p < j
      · rw [if_pos e2, if_pos (by omega)]
      · rw [if_neg e2, if_neg (by omega)]
theorem en_end (n j : Nat) (hj : j ≤ 8) (h0 : 8 * n / 256 ^ j = 0) : en n j = Da.pad n := by
  refine List.ext_getElem (by rw [en_length, Da.pad_length]) fun p h1 h2 => ?_
  have hp : p < Da.zn n + 9 := by simpa [en] using h1
  simp only [en, List.getElem_map, List.getElem_range, Da.pad]
  cases p with
  | zero => simp
  | succ p =>
    rw [if_neg (by omega), List.getElem_cons_succ, List.getElem_append]
    have hz : ∀ q, j ≤ q → 8 * n / 256 ^ q = 0 := fun q hq => by
      have h1 : 256 ^ j ≤ 256 ^ q := Nat.pow_le_pow_right (by decide) hq
      have h2 := Nat.div_eq_zero_iff.1 h0
      refine Nat.div_eq_of_lt ?_
      rcases h2 with h2 | h2
      · have := Nat.pow_pos (n := j) (show 0 < 256 by decide); omega
      · omega
    by_cases e : p < Da.zn n
    · rw [dif_pos (by simpa using e), List.getElem_replicate]
      by_cases e2 : Da.zn n + 8 - (p + 1) < j
      · omega
      · rw [if_neg e2]
    · rw [dif_neg (by simpa using e)]
      simp only [Da.be8, List.getElem_map, List.getElem_range, List.length_replicate]
      rw [show 7 - (p - Da.zn n) = Da.zn n + 8 - (p + 1) by omega]
      by_cases e2 : Da.zn n + 8 - (p + 1) < j
      · rw [if_pos e2]
      · rw [if_neg e2, hz _ (by omega)]; rfl
def En1 (n g : Nat) (w : World) (i l : Value) (wr : World) : Prop :=
  ∃ j : Nat, j ≤ 8 ∧ i = .int .i64 ((Da.zn n + 8 - j : Nat) : Int) ∧ l = .int .u64 ((8 * n / 256 ^ j : Nat) : Int) ∧ Arr wr g 5 (bytesV (en n j)) ∧ Below w.heap.size w wr
end Go.Proofs.YtomkkkbdipcjgaaDoor
namespace Go.Proofs.YtomkkkbdipcjgaaDoor
open Go.RowKit
set_option linter.unusedVariables false
set_option linter.unusedSimpArgs false
theorem hcs_one (st : List UInt32) (rs : List UInt8) (n : Nat) : (hcs st rs n).toArray.all (·.oneCell') = true := by
  refine all_oneCell_toArray fun v hv => ?_
  simp only [hcs, List.mem_append] at hv
  rcases hv with h | h | h
  · exact u32V_one _ v h
  · exact bytesV_one _ v h
  · simp at h; subst h; rfl
/-- the first m figures of the digest -/
def dgp (l : List UInt32) (m : Nat) : List UInt8 := (List.range 32).map fun q => if q < m then UInt8.ofNat ((Da.wi l (q / 4)).toNat / 2 ^ (24 - 8 * (q % 4))) else 0
theorem dgp_length (l : List UInt32) (m : Nat) : (dgp l m).length = 32 := by simp [dgp]
theorem dgp_zero (l : List UInt32) : dgp l 0 = List.replicate 32 0 := by
  refine List.ext_getElem (by simp [dgp]) fun j h1 h2 => ?_
  rw [List.getElem_replicate]; simp only [dgp, List.getElem_map, Nat.not_lt_zero, if_false]
theorem dgp_end (l : List UInt32) : dgp l 32 = Da.digs l := by
  unfold dgp Da.digs
  refine List.map_congr_left fun q hq => ?_
  rw [if_pos (by simpa using hq)]
theorem dgp_step (l : List UInt32) (m : Nat) : (dgp l m).set m (UInt8.ofNat ((Da.wi l (m / 4)).toNat / 2 ^ (24 - 8 * (m % 4)))) = dgp l (m + 1) := by
  refine List.ext_getElem (by simp [dgp]) fun j h1 h2 => ?_
  simp only [dgp, List.getElem_set, List.getElem_map, List.getElem_range]
  by_cases e : m = j
  · subst e; simp
  · rw [if_neg e]
    by_cases e2 : j < m
    · rw [if_pos e2, if_pos (by omega)]
    · rw [if_neg e2, if_neg (by omega)]
end Go.Proofs.YtomkkkbdipcjgaaDoor
namespace Go.Proofs.YtomkkkbdipcjgaaDoor
open Go.RowKit
set_option linter.unusedVariables false
set_option linter.unusedSimpArgs false
theorem flat_step (bs : List (List UInt8)) (k : Nat) (h : k < bs.length) : (bs.take (k + 1)).flatten = (bs.take k).flatten ++ bi bs k := by
  rw [List.take_add_one, List.getElem?_eq_getElem h, List.flatten_append]
  simp [bi, h]
theorem flat_le (bs : List (List UInt8)) (k : Nat) : (bs.take k).flatten.length ≤ bs.flatten.length := by
  have : bs.flatten = (bs.take k).flatten ++ (bs.drop k).flatten := by rw [← List.flatten_append, List.take_append_drop]
  rw [this, List.length_append]; omega
end Go.Proofs.YtomkkkbdipcjgaaDoor
