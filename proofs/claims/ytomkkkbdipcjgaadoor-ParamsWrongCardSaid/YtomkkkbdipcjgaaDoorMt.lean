/- Rows of rows in memory: a slice whose elements are slices that read as lists; parts of it; append of headers to a row of headers that is owned. Matrices in memory: a row of rows, each in a block of its own; one number written. -/
import Derived.Test.YtomkkkbdipcjgaaDoorApw
import Derived.Test.YtomkkkbdipcjgaaDoorSb
import Derived.Laws.AppendOwnNone
import Derived.Lib.AppendZeros
import Derived.Deep.Onto
namespace Go.Proofs.YtomkkkbdipcjgaaDoor
open Go.RowKit
set_option linter.unusedVariables false
set_option linter.unusedSimpArgs false
theorem info_rowB : (Tryd.prog.info? 36).map (fun i => (i.zero, i.size, i.bytes)) = some (some (.slice none 0 0), 1, 24) := by kernel_rfl
/-- part of a row -/
theorem RowIs.part {W : World} {b off : Nat} {vs : List Value} {c : Nat} (h : RowIs W (some ⟨b, off, none⟩) vs c) (k m : Nat) (hm : k + m ≤ vs.length) (c' : Nat) (hc : m ≤ c') (hc2 : c' ≤ maxLen) : RowIs W (some ⟨b, off + k, none⟩) ((vs.drop k).take m) c' :=
  ⟨by simp; omega, hc2, (fun e => by cases e), fun h0 => by
    have h0 : 0 < m := by simp at h0; omega
    obtain ⟨b', off', e, hlt, hcell⟩ := h.cells (by omega)
    cases e
    refine ⟨b, off + k, rfl, hlt, fun i v hv => ?_⟩
    have hi : i < m := by
      have := (List.getElem?_eq_some_iff.1 hv).1
      simp at this; omega
    rw [List.getElem?_take_of_lt hi, List.getElem?_drop] at hv
    rw [Nat.add_assoc]
    exact hcell _ _ hv⟩
theorem RowIs.empty {W : World} (o : Option Addr) (c : Nat) (hc : c ≤ maxLen) (h : o = none → c = 0) : RowIs W o [] c := ⟨by simp, hc, h, fun h => by simp at h⟩
/-- a row that is owned reads as its values -/
theorem owns_is {T : TypeId} {W : World} {n : Nat} {v : Value} {xs : List Value} {m : Nat} (h : W.ownsRow n T 1 v m xs) (hm : m = xs.length) : ∃ o c, v = .slice o m c ∧ RowIs W o xs c := by
  subst hm
  have h00 := h
  obtain ⟨hl, hx⟩ := h
  rcases hx with ⟨rfl, h0⟩ | ⟨g, cap, cur, rfl, hg, hh, h1, h2, hcur, htake⟩
  · exact ⟨none, 0, by rw [h0], ⟨by omega, Nat.zero_le _, fun _ => rfl, fun h => by omega⟩⟩
  · exact ⟨_, cap, rfl, ⟨by simpa using h1, h2, (fun e => by cases e), fun _ => ⟨g, 0, rfl, (Array.getElem?_eq_some_iff.1 hh).1, fun i u hu => by
      have hi := (List.getElem?_eq_some_iff.1 hu).1
      rw [Nat.zero_add, World.ownsRow.cellAt h00 i (by omega)]
      exact hu⟩⟩⟩
/-- the values xs are slices that read as the lists bs -/
structure Els (W : World) (bs : List (List UInt8)) (xs : List Value) : Prop where
  len : xs.length = bs.length
  at_ : ∀ i x, xs[i]? = some x → RowV (bi bs i) x W
theorem Els.later {W W' : World} {bs : List (List UInt8)} {xs : List Value} (h : Els W bs xs) (hb : Below W.heap.size W W') : Els W' bs xs := ⟨h.len, fun i x hx => (h.at_ i x hx).later hb⟩
theorem Els.nil (W : World) : Els W [] [] := ⟨rfl, fun i x hx => by simp at hx⟩
theorem Els.app {W : World} {a b : List (List UInt8)} {xs ys : List Value} (h : Els W a xs) (k : Els W b ys) : Els W (a ++ b) (xs ++ ys) :=
  ⟨by simp [h.len, k.len], fun i x hx => by
    rw [bi_app]
    have hl := h.len
    by_cases hi : i < a.length
    · rw [if_pos hi]
      rw [List.getElem?_append_left (by omega)] at hx
      exact h.at_ i x hx
    · rw [if_neg hi, ← hl]
      rw [List.getElem?_append_right (by omega)] at hx
      exact k.at_ _ x hx⟩
theorem Els.one {W : World} {b : List UInt8} {x : Value} (h : RowV b x W) : Els W [b] [x] :=
  ⟨rfl, fun i y hy => by
    match i, hy with
    | 0, hy => simp at hy; subst hy; exact h
    | i + 1, hy => simp at hy⟩
theorem Els.part {W : World} {a : List (List UInt8)} {xs : List Value} (h : Els W a xs) (k m : Nat) : Els W ((a.drop k).take m) ((xs.drop k).take m) :=
  ⟨by simp [h.len], fun i x hx => by
    have hi : i < m := by
      have := (List.getElem?_eq_some_iff.1 hx).1
      simp at this; omega
    rw [List.getElem?_take_of_lt hi, List.getElem?_drop] at hx
    rw [bi_take _ _ _ hi, bi_drop]
    exact h.at_ _ x hx⟩
theorem Els.ones {W : World} {a : List (List UInt8)} {xs : List Value} (h : Els W a xs) : ∀ u ∈ xs, u.oneCell' = true := fun u hu => by
  obtain ⟨i, hi, e⟩ := List.getElem_of_mem hu
  obtain ⟨o, c, rfl, _⟩ := h.at_ i u (by rw [List.getElem?_eq_getElem hi, e])
  rfl
theorem Els.get {W : World} {a : List (List UInt8)} {xs : List Value} (h : Els W a xs) (i : Nat) (hi : i < a.length) : ∃ x, xs[i]? = some x ∧ RowV (bi a i) x W := by
  have hl := h.len
  exact ⟨xs[i], List.getElem?_eq_getElem (by omega), h.at_ i _ (List.getElem?_eq_getElem (by omega))⟩
/-- the slice (address o, capacity c) reads as these blocks -/
def RbIs (W : World) (o : Option Addr) (bs : List (List UInt8)) (c : Nat) : Prop := ∃ xs, RowIs W o xs c ∧ Els W bs xs
theorem RbIs.later {W W' : World} {o : Option Addr} {bs : List (List UInt8)} {c : Nat} (h : RbIs W o bs c) (hb : Below W.heap.size W W') : RbIs W' o bs c := by
  obtain ⟨xs, h1, h2⟩ := h
  exact ⟨xs, h1.later hb, h2.later hb⟩
theorem RbIs.le {W : World} {o : Option Addr} {bs : List (List UInt8)} {c : Nat} (h : RbIs W o bs c) : bs.length ≤ c ∧ c ≤ maxLen := by
  obtain ⟨xs, h1, h2⟩ := h
  have := h1.le
  rw [h2.len] at this
  exact ⟨this, h1.cap⟩
theorem RbIs.noaddr {W : World} {bs : List (List UInt8)} {c : Nat} (h : RbIs W none bs c) : c = 0 ∧ bs = [] := by
  obtain ⟨xs, h1, h2⟩ := h
  have h3 := h1.nil rfl
  have h4 := h1.le
  have h5 := h2.len
  exact ⟨h3, List.eq_nil_of_length_eq_zero (by omega)⟩
/-- the cell of a block's header -/
theorem RbIs.cell {W : World} {o : Option Addr} {bs : List (List UInt8)} {c : Nat} (h : RbIs W o bs c) (i : Nat) (hi : i < bs.length) :
    ∃ b off p q, o = some ⟨b, off, none⟩ ∧ b < W.heap.size ∧ W.cell? ⟨b, off + i, none⟩ = some (.slice p (bi bs i).length q) ∧ RowIs W p (bytesV (bi bs i)) q := by
  obtain ⟨xs, h1, h2⟩ := h
  have hl := h2.len
  obtain ⟨b, off, e, hlt, hc⟩ := h1.cells (by omega)
  obtain ⟨x, hx, p, q, rfl, hr⟩ := h2.get i hi
  exact ⟨b, off, p, q, e, hlt, hc i _ hx, hr⟩
theorem RbIs.part {W : World} {b off : Nat} {bs : List (List UInt8)} {c : Nat} (h : RbIs W (some ⟨b, off, none⟩) bs c) (k m : Nat) (hm : k + m ≤ bs.length) (c' : Nat) (hc : m ≤ c') (hc2 : c' ≤ maxLen) : RbIs W (some ⟨b, off + k, none⟩) ((bs.drop k).take m) c' := by
  obtain ⟨xs, h1, h2⟩ := h
  exact ⟨_, h1.part k m (by rw [h2.len]; exact hm) c' hc hc2, h2.part k m⟩
theorem RbIs.empty {W : World} (o : Option Addr) (c : Nat) (hc : c ≤ maxLen) (h : o = none → c = 0) : RbIs W o [] c := ⟨[], RowIs.empty o c hc h, Els.nil W⟩
def RbV (bs : List (List UInt8)) (x : Value) (v : World) : Prop := ∃ o c, x = .slice o bs.length c ∧ RbIs v o bs c
theorem RbV.later {bs : List (List UInt8)} {x : Value} {v v' : World} (h : RbV bs x v) (hb : Below v.heap.size v v') : RbV bs x v' := by
  obtain ⟨o, c, e, h⟩ := h
  exact ⟨o, c, e, h.later hb⟩
theorem owns_rb {W : World} {n : Nat} {v : Value} {xs : List Value} {bs : List (List UInt8)} {m : Nat} (h : W.ownsRow n 36 1 v m xs) (hm : m = bs.length) (he : Els W bs xs) : RbV bs v W := by
  obtain ⟨o, c, e, hr⟩ := owns_is h (by rw [he.len, hm])
  exact ⟨o, c, by rw [e, hm], xs, hr, he⟩
theorem own_ltB {T : TypeId} {W : World} {n : Nat} {v : Value} {xs : List Value} {m : Nat} (h : W.ownsRow n T 1 v m xs) : ∀ k, v.ownBlock = some k → n ≤ k := fun k e => (World.ownsRow.lt h k e).1
theorem own_belowB {T : TypeId} {w0 w w' : World} {v : Value} {xs : List Value} {m : Nat} (hb : Below w0.heap.size w0 w) (h : w.ownsRow w0.heap.size T 1 v m xs) (hg : w.grownBy w' v.ownBlock) : Below w0.heap.size w0 w' :=
  hb.grown hg hb.size (fun k e => own_ltB h k e)
/-- a slice that lies below, or in a block of bytes -/
def KindB (base : Nat) (W : World) (x : Value) : Prop := ∀ ad l c, x = .slice (some ad) l c → 0 < l → ad.block < base ∨ ∃ cur, W.heap[ad.block]? = some (.cells cur 5 (0, 0))
structure ElsB (base : Nat) (W : World) (bs : List (List UInt8)) (xs : List Value) : Prop where
  els : Els W bs xs
  kind : ∀ x ∈ xs, KindB base W x
theorem KindB.later {base : Nat} {W W' : World} {x : Value} (h : KindB base W x) (hb : Below W.heap.size W W') : KindB base W' x := fun ad l c e h0 => by
  rcases h ad l c e h0 with h1 | ⟨cur, h1⟩
  · exact .inl h1
  · exact .inr ⟨cur, by rw [hb.block _ (Array.getElem?_eq_some_iff.1 h1).1]; exact h1⟩
theorem ElsB.later {base : Nat} {W W' : World} {bs : List (List UInt8)} {xs : List Value} (h : ElsB base W bs xs) (hb : Below W.heap.size W W') : ElsB base W' bs xs := ⟨h.els.later hb, fun x hx => (h.kind x hx).later hb⟩
theorem ElsB.nil (base : Nat) (W : World) : ElsB base W [] [] := ⟨Els.nil W, fun x hx => by cases hx⟩
theorem ElsB.app {base : Nat} {W : World} {a b : List (List UInt8)} {xs ys : List Value} (h : ElsB base W a xs) (k : ElsB base W b ys) : ElsB base W (a ++ b) (xs ++ ys) :=
  ⟨h.els.app k.els, fun x hx => by
    rcases List.mem_append.1 hx with hx | hx
    · exact h.kind x hx
    · exact k.kind x hx⟩
theorem ElsB.one {base : Nat} {W : World} {b : List UInt8} {x : Value} (h : RowV b x W) (k : KindB base W x) : ElsB base W [b] [x] := ⟨Els.one h, fun y hy => by
  rw [List.mem_singleton] at hy
  subst hy
  exact k⟩
theorem Buf.kind {W : World} {g cap : Nat} {ys : List UInt8} (h : Buf W g cap ys) (base : Nat) : KindB base W (.slice (some ⟨g, 0, none⟩) ys.length cap) := fun ad l c e h0 => by
  cases e
  exact .inr h.cells
/-- what is old when a call begins -/
theorem Els.old {W : World} {bs : List (List UInt8)} {xs : List Value} (h : Els W bs xs) : ElsB W.heap.size W bs xs := ⟨h, fun x hx => by
  obtain ⟨i, hi, e⟩ := List.getElem_of_mem hx
  obtain ⟨o, c, rfl, hr⟩ := h.at_ i x (by rw [List.getElem?_eq_getElem hi, e])
  intro ad l c' e2 h0
  cases e2
  obtain ⟨b, off, e3, hlt, _⟩ := hr.cells (by simpa using h0)
  cases e3
  exact .inl hlt⟩
theorem ElsB.lift {base base' : Nat} {W : World} {bs : List (List UInt8)} {xs : List Value} (h : ElsB base W bs xs) (hb : base ≤ base') : ElsB base' W bs xs := ⟨h.els, fun x hx ad l c e h0 => by
  rcases h.kind x hx ad l c e h0 with h1 | h1
  · exact .inl (by omega)
  · exact .inr h1⟩
theorem ElsB.part {base : Nat} {W : World} {a : List (List UInt8)} {xs : List Value} (h : ElsB base W a xs) (k m : Nat) : ElsB base W ((a.drop k).take m) ((xs.drop k).take m) :=
  ⟨h.els.part k m, fun x hx => h.kind x (List.mem_of_mem_drop (List.mem_of_mem_take hx))⟩
/-- a block that is neither below nor of bytes is written: the rows stay -/
theorem ElsB.keep {base : Nat} {W W' : World} {bs : List (List UInt8)} {xs : List Value} {r : Option Nat} (h : ElsB base W bs xs) (hg : W.grownBy W' r)
    (hr : ∀ k, r = some k → base ≤ k ∧ ∃ cur T f, W.heap[k]? = some (.cells cur T f) ∧ T ≠ 5) : ElsB base W' bs xs := by
  have hkeep : ∀ b, b < W.heap.size → (b < base ∨ ∃ cur, W.heap[b]? = some (.cells cur 5 (0, 0))) → W'.heap[b]? = W.heap[b]? := fun b hlt hk => hg.block b hlt fun e => by
    obtain ⟨h1, cur2, T, f, h2, h3⟩ := hr b e.symm
    rcases hk with hk | ⟨cur, hk⟩
    · omega
    · rw [h2] at hk
      injection hk with hk
      injection hk with _ hk _
      exact h3 hk
  refine ⟨⟨h.els.len, fun i x hx => ?_⟩, fun x hx ad l c e h0 => ?_⟩
  · have hkd := h.kind x (List.mem_of_getElem? hx)
    obtain ⟨o, c, rfl, hr⟩ := h.els.at_ i x hx
    refine ⟨o, c, rfl, hr.le, hr.cap, hr.nil, fun h0 => ?_⟩
    obtain ⟨b, off, rfl, hlt, hc⟩ := hr.cells h0
    have hb := hkeep b hlt (hkd _ _ _ rfl (by simpa using h0))
    refine ⟨b, off, rfl, Nat.lt_of_lt_of_le hlt hg.size, fun j v hv => ?_⟩
    have := hc j v hv
    unfold World.cell? at *
    rw [hb]
    exact this
  · obtain ⟨i, hi, e2⟩ := List.getElem_of_mem hx
    obtain ⟨o, c', e3, hr⟩ := h.els.at_ i x (by rw [List.getElem?_eq_getElem hi, e2])
    rw [e] at e3
    cases e3
    obtain ⟨b, off, e3, hlt, _⟩ := hr.cells (by simpa using h0)
    cases e3
    have hkd := h.kind x hx _ _ _ e h0
    have hb := hkeep b hlt hkd
    rcases hkd with h1 | ⟨cur, h1⟩
    · exact .inl h1
    · exact .inr ⟨cur, by rw [hb]; exact h1⟩
theorem own_kind {T : TypeId} {W : World} {base n : Nat} {v : Value} {ys : List Value} (own : W.ownsRow base T 1 v n ys) (hT : T ≠ 5) : ∀ k, v.ownBlock = some k → base ≤ k ∧ ∃ cur T f, W.heap[k]? = some (.cells cur T f) ∧ T ≠ 5 := fun k e => by
  refine ⟨(World.ownsRow.lt own k e).1, ?_⟩
  rcases own.2 with ⟨rfl, _⟩ | ⟨g, cap, cur2, rfl, _, h2, _⟩
  · cases e
  · cases e
    exact ⟨cur2, _, _, h2, hT⟩
/-- a row of headers grows: what it has headers of stays -/
theorem ElsB.grown {base base' n : Nat} {W W' : World} {bs : List (List UInt8)} {xs ys : List Value} {v : Value} (h : ElsB base W bs xs) (own : W.ownsRow base' 36 1 v n ys) (hg : W.grownBy W' v.ownBlock) (hbb : base ≤ base' := by exact Nat.le_refl _) : ElsB base W' bs xs :=
  h.keep hg fun k e => ⟨by have := (own_kind own (by decide) k e).1; omega, (own_kind own (by decide) k e).2⟩
end Go.Proofs.YtomkkkbdipcjgaaDoor
namespace Go.Proofs.YtomkkkbdipcjgaaDoor
open Go.RowKit
set_option linter.unusedVariables false
set_option linter.unusedSimpArgs false
/-- R rows of N numbers: the outer row in block gO, row i in block Gb i -/
structure Mat (W : World) (B gO capO N R : Nat) (Gb Gc : Nat → Nat) (m : Nat → Nat → UInt8) : Prop where
  outer : W.ownsRow B 36 1 (.slice (some ⟨gO, 0, none⟩) R capO) R ((List.range R).map fun i => .slice (some ⟨Gb i, 0, none⟩) N (Gc i))
  row : ∀ i, i < R → Buf W (Gb i) (Gc i) (tab (m i) N) ∧ B ≤ Gb i
  apart : ∀ i j, i < R → j < R → Gb i = Gb j → i = j
theorem Mat.lt {W : World} {B gO capO N R : Nat} {Gb Gc : Nat → Nat} {m : Nat → Nat → UInt8} (h : Mat W B gO capO N R Gb Gc m) : B ≤ gO ∧ gO < W.heap.size := World.ownsRow.lt h.outer gO rfl
theorem Mat.outCells {W : World} {B gO capO N R : Nat} {Gb Gc : Nat → Nat} {m : Nat → Nat → UInt8} (h : Mat W B gO capO N R Gb Gc m) : ∃ cur, W.heap[gO]? = some (.cells cur 36 (0, 0)) := by
  rcases h.outer.2 with ⟨h1, _⟩ | ⟨g, cap, cur, h1, _, h2, _⟩
  · cases h1
  · cases h1
    exact ⟨cur, h2⟩
theorem Mat.ne {W : World} {B gO capO N R : Nat} {Gb Gc : Nat → Nat} {m : Nat → Nat → UInt8} (h : Mat W B gO capO N R Gb Gc m) (i : Nat) (hi : i < R) : gO ≠ Gb i := fun e => by
  obtain ⟨cur, h1⟩ := h.outCells
  obtain ⟨cur2, h2⟩ := (h.row i hi).1.cells
  rw [← e, h1] at h2
  cases h2
theorem Mat.congr {W : World} {B gO capO N R : Nat} {Gb Gc : Nat → Nat} {m m' : Nat → Nat → UInt8} (h : Mat W B gO capO N R Gb Gc m) (he : ∀ i j, i < R → j < N → m i j = m' i j) : Mat W B gO capO N R Gb Gc m' :=
  ⟨h.outer, fun i hi => by
    have e : tab (m' i) N = tab (m i) N := list_ext (by simp) fun j hj => by
      simp at hj
      rw [co_tab _ _ _ hj, co_tab _ _ _ hj, he i j hi hj]
    rw [e]
    exact h.row i hi, h.apart⟩
theorem Mat.later {W W' : World} {B gO capO N R : Nat} {Gb Gc : Nat → Nat} {m : Nat → Nat → UInt8} (h : Mat W B gO capO N R Gb Gc m) (hb : Below W.heap.size W W') : Mat W' B gO capO N R Gb Gc m :=
  ⟨World.ownsRow.kept (row := none) h.outer ⟨hb.os, hb.tape, hb.output, hb.size, fun i hi _ => hb.block i hi⟩ (.inr (by simp [Value.ownBlock])), fun i hi => ⟨(h.row i hi).1.later hb, (h.row i hi).2⟩, h.apart⟩
theorem Mat.cell {W : World} {B gO capO N R : Nat} {Gb Gc : Nat → Nat} {m : Nat → Nat → UInt8} (h : Mat W B gO capO N R Gb Gc m) (i j : Nat) (hi : i < R) (hj : j < N) : W.cell? ⟨Gb i, j, none⟩ = some (.int .u8 ((m i j).toNat : Int)) := by
  have := (h.row i hi).1.cell j (by simpa using hj)
  rwa [co_tab _ _ _ hj] at this
theorem Mat.frozen {W : World} {B gO capO N R : Nat} {Gb Gc : Nat → Nat} {m : Nat → Nat → UInt8} (h : Mat W B gO capO N R Gb Gc m) (i j : Nat) (hi : i < R) : W.frozen? ⟨Gb i, j, none⟩ = false := (h.row i hi).1.frozen j
theorem Mat.hdr {W : World} {B gO capO N R : Nat} {Gb Gc : Nat → Nat} {m : Nat → Nat → UInt8} (h : Mat W B gO capO N R Gb Gc m) (i : Nat) (hi : i < R) : W.cell? ⟨gO, i, none⟩ = some (.slice (some ⟨Gb i, 0, none⟩) N (Gc i)) := by
  rw [World.ownsRow.cellAt h.outer i (by omega)]
  simp [hi]
theorem Mat.hdrFrozen {W : World} {B gO capO N R : Nat} {Gb Gc : Nat → Nat} {m : Nat → Nat → UInt8} (h : Mat W B gO capO N R Gb Gc m) (i : Nat) : W.frozen? ⟨gO, i, none⟩ = false := World.ownsRow.frozenAt h.outer i
theorem Mat.caps {W : World} {B gO capO N R : Nat} {Gb Gc : Nat → Nat} {m : Nat → Nat → UInt8} (h : Mat W B gO capO N R Gb Gc m) (i : Nat) (hi : i < R) : N ≤ Gc i ∧ Gc i ≤ maxLen := by
  have := (h.row i hi).1.le
  simpa using this
theorem Mat.cap {W : World} {B gO capO N R : Nat} {Gb Gc : Nat → Nat} {m : Nat → Nat → UInt8} (h : Mat W B gO capO N R Gb Gc m) : R ≤ capO ∧ capO ≤ maxLen := by
  rcases h.outer.2 with ⟨h1, _⟩ | ⟨g, cap, cur, h1, _, _, h2, h3, _⟩
  · cases h1
  · cases h1
    exact ⟨h2, h3⟩
/-- one number is written -/
def put2 (m : Nat → Nat → UInt8) (i j : Nat) (x : UInt8) (a b : Nat) : UInt8 := if a = i ∧ b = j then x else m a b
theorem Mat.store {W : World} {B gO capO N R : Nat} {Gb Gc : Nat → Nat} {m : Nat → Nat → UInt8} (h : Mat W B gO capO N R Gb Gc m) (i j : Nat) (hi : i < R) (hj : j < N) (x : UInt8) :
    Mat (W.setCell ⟨Gb i, j, none⟩ (.int .u8 (x.toNat : Int))) B gO capO N R Gb Gc (put2 m i j x) ∧ Only (Gb i) W (W.setCell ⟨Gb i, j, none⟩ (.int .u8 (x.toNat : Int))) := by
  have hs := (h.row i hi).1.store j x
  refine ⟨⟨World.ownsRow.kept h.outer hs.2 (.inr fun e => h.ne i hi (by cases e; rfl)), fun a ha => ?_, h.apart⟩, hs.2⟩
  by_cases e : a = i
  · subst e
    have e2 : tab (put2 m a j x a) N = (tab (m a) N).set j x := list_ext (by simp) fun b hb => by
      simp at hb
      rw [co_tab _ _ _ hb, co_set, co_tab _ _ _ hb]
      unfold put2
      by_cases e3 : j = b
      · subst e3
        rw [if_pos ⟨rfl, rfl⟩, if_pos ⟨rfl, by simpa using hb⟩]
      · rw [if_neg (fun h => e3 h.2.symm), if_neg (fun h => e3 h.1)]
    rw [e2]
    exact ⟨hs.1, (h.row a ha).2⟩
  · have e2 : tab (put2 m i j x a) N = tab (m a) N := list_ext (by simp) fun b hb => by
      simp at hb
      rw [co_tab _ _ _ hb, co_tab _ _ _ hb]
      unfold put2
      rw [if_neg (fun h => e h.1)]
    rw [e2]
    refine ⟨?_, (h.row a ha).2⟩
    exact World.ownsRow.kept (h.row a ha).1 hs.2 (.inr fun e3 => e (h.apart a i ha hi (Option.some.inj (show some (Gb a) = some (Gb i) from e3))))
end Go.Proofs.YtomkkkbdipcjgaaDoor
