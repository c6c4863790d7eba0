/- Rows of digests in memory: read, parted, grown by one, cut by one; the code's values, the document's values. -/
import Derived.Test.YtmfbdelhkdimaaaDoorTl
import Derived.Great.BuildSlice
import Derived.Maps.AppendAt
namespace Go.Proofs.YtmfbdelhkdimaaaDoor.Da
/-- digests, each of so many bytes -/
def all32 (ds : List (List UInt8)) : Prop := ∀ d ∈ ds, d.length = 32
theorem all32.app {a b : List (List UInt8)} (h : all32 a) (k : all32 b) : all32 (a ++ b) := fun d hd => by
  rcases List.mem_append.1 hd with h1 | h1
  · exact h d h1
  · exact k d h1
theorem all32.nil : all32 [] := fun d hd => by cases hd
theorem all32.one {d : List UInt8} (h : d.length = 32) : all32 [d] := fun e he => by rw [List.mem_singleton] at he; rw [he]; exact h
theorem all32.take {a : List (List UInt8)} (h : all32 a) (n : Nat) : all32 (a.take n) := fun d hd => h d (List.mem_of_mem_take hd)
theorem all32.drop {a : List (List UInt8)} (h : all32 a) (n : Nat) : all32 (a.drop n) := fun d hd => h d (List.mem_of_mem_drop hd)
theorem all32.at_ {a : List (List UInt8)} (h : all32 a) {i : Nat} (hi : i < a.length) : (bi a i).length = 32 := by
  have e : bi a i = a[i] := by simp [bi, hi]
  rw [e]; exact h _ (List.getElem_mem hi)
theorem all32.lf (bs : List (List UInt8)) : all32 (bs.map lf) := by
  intro d hd
  obtain ⟨b, _, rfl⟩ := List.mem_map.1 hd
  exact lf_length b
theorem flat_len {ds : List (List UInt8)} (h : all32 ds) : ds.flatten.length = ds.length * 32 := by
  induction ds with
  | nil => rfl
  | cons d ds ih =>
    rw [List.flatten_cons, List.length_append, ih (fun e he => h e (List.mem_cons_of_mem _ he)), h d (by simp), List.length_cons]
    omega
theorem flat_at {ds : List (List UInt8)} (h : all32 ds) (i j : Nat) (hi : i < ds.length) (hj : j < 32) : ds.flatten[i * 32 + j]? = (bi ds i)[j]? := by
  induction ds generalizing i with
  | nil => simp at hi
  | cons d ds ih =>
    have hd := h d (by simp)
    rw [List.flatten_cons]
    cases i with
    | zero =>
      rw [List.getElem?_append_left (by omega)]
      simp [bi]
    | succ i =>
      rw [List.getElem?_append_right (by omega), hd, show (i + 1) * 32 + j - 32 = i * 32 + j by omega, ih (fun e he => h e (List.mem_cons_of_mem _ he)) i (by simpa using hi)]
      simp [bi]
theorem flat_drop {ds : List (List UInt8)} (h : all32 ds) (k : Nat) : (ds.drop k).flatten = ds.flatten.drop (k * 32) := by
  by_cases hk : k ≤ ds.length
  · have e : ds.flatten = (ds.take k).flatten ++ (ds.drop k).flatten := by rw [← List.flatten_append, List.take_append_drop]
    have hl : (ds.take k).flatten.length = k * 32 := by rw [flat_len (h.take k), List.length_take]; congr 1; omega
    rw [e, ← hl, List.drop_left]
  · rw [List.drop_of_length_le (by omega), List.drop_of_length_le (by rw [flat_len h]; omega)]; rfl
theorem flat_take {ds : List (List UInt8)} (h : all32 ds) (k : Nat) : (ds.take k).flatten = ds.flatten.take (k * 32) := by
  by_cases hk : k ≤ ds.length
  · have e : ds.flatten = (ds.take k).flatten ++ (ds.drop k).flatten := by rw [← List.flatten_append, List.take_append_drop]
    have hl : (ds.take k).flatten.length = k * 32 := by rw [flat_len (h.take k), List.length_take]; congr 1; omega
    rw [e, ← hl, List.take_left]
  · rw [List.take_of_length_le (by omega), List.take_of_length_le (by rw [flat_len h]; omega)]
end Go.Proofs.YtmfbdelhkdimaaaDoor.Da
namespace Go.Proofs.YtmfbdelhkdimaaaDoor
open Go.RowKit
set_option linter.unusedVariables false
set_option linter.unusedSimpArgs false
/-- a slice of digests -/
structure DgIs (W : World) (o : Option Addr) (ds : List (List UInt8)) (c : Nat) : Prop where
  le : ds.length ≤ c
  cap : c ≤ maxLen
  nil : o = none → c = 0
  all : Da.all32 ds
  cells : 0 < ds.length → ∃ b off, o = some ⟨b, off, none⟩ ∧ b < W.heap.size ∧ W.rangeAt b off (bytesV ds.flatten)
theorem rangeAt_later {W W' : World} {b off : Nat} {cs : List Value} (h : W.rangeAt b off cs) (hb : Below W.heap.size W W') (hlt : b < W.heap.size) : W'.rangeAt b off cs :=
  fun j v hv => by rw [hb.cell (p := ⟨b, off + j, none⟩) hlt]; exact h j v hv
theorem DgIs.later {W W' : World} {o : Option Addr} {ds : List (List UInt8)} {c : Nat} (h : DgIs W o ds c) (hb : Below W.heap.size W W') : DgIs W' o ds c :=
  ⟨h.le, h.cap, h.nil, h.all, fun h0 => by
    obtain ⟨b, off, e, hlt, hc⟩ := h.cells h0
    exact ⟨b, off, e, Nat.lt_of_lt_of_le hlt hb.size, rangeAt_later hc hb hlt⟩⟩
theorem DgIs.at_ {W : World} {o : Option Addr} {ds : List (List UInt8)} {c : Nat} (h : DgIs W o ds c) (i : Nat) (hi : i < ds.length) :
    ∃ b off, o = some ⟨b, off, none⟩ ∧ b < W.heap.size ∧ W.rangeAt b (off + i * 32) (bytesV (bi ds i)) := by
  obtain ⟨b, off, e, hlt, hc⟩ := h.cells (by omega)
  refine ⟨b, off, e, hlt, fun j v hv => ?_⟩
  have hj : j < 32 := by
    have := (List.getElem?_eq_some_iff.1 hv).1
    rw [bytesV_length, h.all.at_ hi] at this
    exact this
  rw [Nat.add_assoc]
  refine hc _ v ?_
  unfold bytesV at hv ⊢
  rw [List.getElem?_map] at hv ⊢
  rw [Da.flat_at h.all i j hi hj]
  exact hv
theorem DgIs.noaddr {W : World} {ds : List (List UInt8)} {c : Nat} (h : DgIs W none ds c) : c = 0 ∧ ds = [] := by
  have h1 := h.nil rfl
  have h2 := h.le
  exact ⟨h1, List.eq_nil_of_length_eq_zero (by omega)⟩
theorem DgIs.empty {W : World} (o : Option Addr) (c : Nat) (hc : c ≤ maxLen) (h : o = none → c = 0) : DgIs W o [] c := ⟨by simp, hc, h, Da.all32.nil, fun h => by simp at h⟩
theorem DgIs.part {W : World} {b off : Nat} {ds : List (List UInt8)} {c : Nat} (h : DgIs W (some ⟨b, off, none⟩) ds c) (k m : Nat) (hm : k + m ≤ ds.length) (c' : Nat) (hc : m ≤ c') (hc2 : c' ≤ maxLen) :
    DgIs W (some ⟨b, off + k * 32, none⟩) ((ds.drop k).take m) c' :=
  ⟨by rw [List.length_take, List.length_drop]; omega, hc2, (fun e => by cases e), (h.all.drop k).take m, fun h0 => by
    rw [List.length_take, List.length_drop] at h0
    obtain ⟨b', off', e, hlt, hcl⟩ := h.cells (by omega)
    cases e
    refine ⟨b, off + k * 32, rfl, hlt, fun j v hv => ?_⟩
    rw [Nat.add_assoc]
    refine hcl _ v ?_
    rw [Da.flat_take (h.all.drop k), Da.flat_drop h.all] at hv
    unfold bytesV at hv ⊢
    rw [List.getElem?_map] at hv ⊢
    have hj : j < m * 32 := by
      have := hv
      rw [List.getElem?_take] at this
      by_cases hh : j < m * 32
      · exact hh
      · simp [hh] at this
    rw [List.getElem?_take_of_lt hj, List.getElem?_drop] at hv
    exact hv⟩
/-- what a digest's type tells -/
def dgI (T : TypeId) : Prop := (Tryd.prog.info? T).map (fun i => (i.zero, i.size, i.bytes)) = some (some (.agg (bytesV (List.replicate 32 0)).toArray), 32, 32)
theorem dgI_code : dgI 32 := by unfold dgI; kernel_rfl
theorem dgI_doc : dgI 31 := by unfold dgI; kernel_rfl
theorem dgI_parts {T : TypeId} (h : dgI T) : ∃ i, Tryd.prog.info? T = some i ∧ i.zero = some (.agg (bytesV (List.replicate 32 0)).toArray) ∧ i.size = 32 ∧ i.bytes = 32 := by
  unfold dgI at h
  cases hi : Tryd.prog.info? T with
  | none => rw [hi] at h; cases h
  | some i =>
    rw [hi] at h
    simp only [Option.map_some, Option.some.injEq, Prod.mk.injEq] at h
    exact ⟨i, rfl, h.1, h.2.1, h.2.2⟩
/-- one digest, laid as a slice -/
theorem dg_slice_run {T tS : TypeId} (hS : Tryd.prog.underlying tS = some (.slice T)) (hT : dgI T) (D : Array Value) (hD : D.size = 32) (w : World) :
    (Instr.buildSlice tS 1 #[(0, .agg D)]).run Tryd.prog w = .ok (.slice (some ⟨w.heap.size, 0, none⟩) 1 1) (w.alloc (.cells D T)) := by
  obtain ⟨i, hi, hz, hs, hb⟩ := dgI_parts hT
  refine run_buildSlice (P := Tryd.prog) w tS T 1 #[(0, .agg D)] D i _ hS hi hz (by rw [hs]; decide) (by rw [hs]; decide) ?_
  rw [hs]
  obtain ⟨r, hr, hsz, hk⟩ := Great.fill_dense (s := 32) (by decide) [Value.agg D] 0 ((Array.range (1 * 32)).map ((Value.agg (bytesV (List.replicate 32 0)).toArray).cells[· % (Value.agg (bytesV (List.replicate 32 0)).toArray).cells.size]!)) (by
    intro v hv
    rw [List.mem_singleton] at hv
    subst hv
    exact hD) (by simp)
  rw [show ([Value.agg D].zipIdx 0).map (fun x => (x.2, x.1)) = [(0, Value.agg D)] from rfl] at hr
  rw [show (#[((0 : Nat), Value.agg D)]).toList = [(0, Value.agg D)] from rfl, hr]
  congr 1
  apply Array.ext_getElem?
  intro k
  rw [hk k]
  by_cases h : k < 32
  · rw [if_pos ⟨by omega, by simpa using h⟩, show k / 32 - 0 = 0 by omega, show k % 32 = k by omega]
    rfl
  · rw [if_neg (by simp; omega)]
    have h1 : D[k]? = none := Array.getElem?_eq_none (by omega)
    rw [h1]
    exact Array.getElem?_eq_none (by simp; omega)
/-- a digest read in the middle of a block -/
theorem dg_load_run {T : TypeId} (hu : Tryd.prog.underlying T = some (.array 32 5)) (hT : dgI T) {W : World} {b off : Nat} {d : List UInt8} (hd : d.length = 32) (h : W.rangeAt b off (bytesV d)) :
    (Instr.loadAt T (.pointer (some ⟨b, off, none⟩))).run Tryd.prog W = .ok (.agg (bytesV d).toArray) W := by
  obtain ⟨i, hi, hz, hs, hb⟩ := dgI_parts hT
  exact run_loadAt_mid (P := Tryd.prog) W b off T (bytesV d) _ h hu rfl (by rw [hi]; simp [hs, hd])
theorem Arr.rng {W : World} {b : Nat} {T : TypeId} {xs : List Value} (h : Arr W b T xs) : W.rangeAt b 0 xs := fun j v hv => by rw [Nat.zero_add, h.cell]; exact hv
/-- append of one digest -/
theorem dg_append_run {T tS : TypeId} (hS : Tryd.prog.underlying tS = some (.slice T)) (hT : dgI T) (ty : TypeId) (w : World) (base : Nat) (v : Value) (n : Nat) (xs : List Value) (hown : w.ownsRow base T 32 v n xs)
    (b : Nat) (d : List UInt8) (hd : d.length = 32) (h : w.rangeAt b 0 (bytesV d)) (hl : n ≤ 1000000) (hbase : base ≤ w.heap.size) :
    ∃ g cap w', (Builtin.append_ #[tS, tS] ty #[v, .slice (some ⟨b, 0, none⟩) 1 1]).run Tryd.prog w = .ok (.slice (some ⟨g, 0, none⟩) (n + 1) cap) w' ∧ w'.ownsRow base T 32 (.slice (some ⟨g, 0, none⟩) (n + 1) cap) (n + 1) (xs ++ bytesV d) ∧
      w.grownBy w' v.ownBlock ∧ (some g = v.ownBlock ∨ g = w.heap.size) := by
  obtain ⟨i, hi, hz, hs, hb⟩ := dgI_parts hT
  obtain ⟨v', w', h1, h2, h3, _, h5⟩ := run_append_own_at (P := Tryd.prog) w base tS ty T i _ 32 32 hS hi hz hs hb (by simp [Value.cells]) (by decide) v n xs hown ⟨b, 0, none⟩ 1 1 (bytesV d) (by simp [hd]) (fun j u hu => by rw [Addr.add_mid]; exact h j u hu) (bytesV_one _)
    (by unfold maxLen; omega) (by omega) hbase
  rcases h2.2 with ⟨_, h0⟩ | ⟨g, cap, cur, rfl, hg, _⟩
  · omega
  · refine ⟨g, cap, w', h1, h2, h3, ?_⟩
    rcases h5 with h5 | h5
    · exact .inl h5
    · exact .inr (by simpa [Value.ownBlock] using h5)
/-- the last one is let go -/
theorem own_pop {T : TypeId} {W : World} {base g n cap : Nat} {xs : List Value} (h : W.ownsRow base T 32 (.slice (some ⟨g, 0, none⟩) (n + 1) cap) (n + 1) xs) : W.ownsRow base T 32 (.slice (some ⟨g, 0, none⟩) n cap) n (xs.take (n * 32)) := by
  obtain ⟨h1, h2⟩ := h
  refine ⟨by rw [List.length_take, h1]; omega, ?_⟩
  rcases h2 with ⟨_, h0⟩ | ⟨g', cap', cur, e, hg, hh, hle, hm, hs, ht⟩
  · omega
  · cases e
    refine .inr ⟨g, cap, cur, rfl, hg, hh, by omega, hm, hs, ?_⟩
    rw [← ht, List.take_take]
    congr 1
    omega
theorem own_dg {T : TypeId} {W : World} {base n : Nat} {v : Value} {ds : List (List UInt8)} (h : W.ownsRow base T 32 v n (bytesV ds.flatten)) (ha : Da.all32 ds) : n = ds.length ∧ ∃ o c, v = .slice o n c ∧ DgIs W o ds c := by
  have hn : n = ds.length := by
    have := h.1
    rw [bytesV_length, Da.flat_len ha] at this
    omega
  refine ⟨hn, ?_⟩
  rcases h.2 with ⟨rfl, h0⟩ | ⟨g, cap, cur, rfl, hg, hh, hle, hm, hs, ht⟩
  · obtain rfl : ds = [] := List.eq_nil_of_length_eq_zero (by omega)
    exact ⟨none, 0, by rw [h0], DgIs.empty none 0 (Nat.zero_le _) (fun _ => rfl)⟩
  · refine ⟨some ⟨g, 0, none⟩, cap, rfl, by omega, hm, (fun e => by cases e), ha, fun _ => ⟨g, 0, rfl, (Array.getElem?_eq_some_iff.1 hh).1, fun j u hu => ?_⟩⟩
    rw [Nat.zero_add, cell_of_row _ _ _ _ _ _ hh]
    rw [← ht, List.getElem?_take] at hu
    split at hu
    · simpa using hu
    · cases hu
theorem own_blk {T : TypeId} {W : World} {base n : Nat} {v : Value} {xs : List Value} (h : W.ownsRow base T 32 v n xs) : ∀ g, v.ownBlock = some g → base ≤ g ∧ ∃ cur, W.heap[g]? = some (.cells cur T (0, 0)) := by
  intro g e
  rcases h.2 with ⟨rfl, _⟩ | ⟨g', cap, cur, rfl, hg, hh, _⟩
  · cases e
  · cases e
    exact ⟨hg, cur, hh⟩
end Go.Proofs.YtmfbdelhkdimaaaDoor
