/- The code's parts of rebuilding: nothing but noughts, equal bytes, which blocks are gone, a group's blocks mended, how much was damaged, rows of bytes one behind the other. The code's group of blocks, mended. The code's Rebuild. -/
import Derived.Test.YtomkkkbdipcjgaaDoorBc
import Derived.Test.YtomkkkbdipcjgaaDoorMb
import Derived.Test.YtomkkkbdipcjgaaDoorRep
namespace Go.Proofs.YtomkkkbdipcjgaaDoor
open Go.RowKit
set_option linter.unusedVariables false
set_option linter.unusedSimpArgs false
def zall (z : List UInt8) : Prop := ∀ i, i < z.length → co z i = 0
def IdxTo (z : List UInt8) (w : World) (e : Ending) (w' : World) : Prop := ∃ r : Int, e = .returned (.int .i64 r) ∧ w' = w ∧ ((r = -1 ∧ zall z) ∨ (0 ≤ r ∧ ¬ zall z))
def NzAt (z : List UInt8) (w : World) (iv : Value) (wr : World) : Prop := ∃ k : Nat, k ≤ z.length ∧ iv = .int .i64 k ∧ (∀ i, i < k → co z i = 0) ∧ wr = w
def DmgAt (G : List (List UInt8)) (vs : Nat → List UInt8) (n : Nat) (w : World) (e c iv : Value) (wr : World) : Prop :=
  ∃ k : Nat, k ≤ n ∧ iv = .int .i64 k ∧ e = .int .i64 ((gnL G k).length : Int) ∧ c = .int .i64 (chN G vs k : Int) ∧ wr = w
/-- rows one behind the other -/
def catY (bs : List (List UInt8)) : Nat → List UInt8
  | 0 => []
  | k + 1 => catY bs k ++ bi bs k
theorem catY_prt (bs : List (List UInt8)) (vs : Nat → List UInt8) (n k : Nat) (hv : ∀ i, i < n → bi bs i = mbk vs i) (hk : k ≤ n) : catY bs k = prt vs k := by
  induction k with
  | zero => rfl
  | succ k ih => rw [catY, ih (by omega), hv k (by omega), prt_succ]
theorem catY_length (bs : List (List UInt8)) (n k : Nat) (h8 : ∀ i, i < n → (bi bs i).length = 8) (hk : k ≤ n) : (catY bs k).length = 8 * k := by
  induction k with
  | zero => rfl
  | succ k ih => rw [catY, List.length_append, ih (by omega), h8 k (by omega)]; omega
def CyvAt (n : Nat) (w : World) (s iv : Value) (wr : World) : Prop := ∃ k : Nat, k ≤ n ∧ iv = .int .i64 k ∧ s = .int .i64 (8 * k : Nat) ∧ wr = w
def CywAt (bs : List (List UInt8)) (n : Nat) (w : World) (v iv : Value) (wr : World) : Prop :=
  ∃ (k B : Nat), k ≤ n ∧ B = 8 * k ∧ iv = .int .i64 k ∧ wr.ownsRow w.heap.size 5 1 v B (bytesV (catY bs k)) ∧ Below w.heap.size w wr
end Go.Proofs.YtomkkkbdipcjgaaDoor
namespace Go.Proofs.YtomkkkbdipcjgaaDoor
open Go.RowKit
set_option linter.unusedVariables false
set_option linter.unusedSimpArgs false
/-- what Fix answers to a column -/
def FyTo (W : List UInt8) (n : Nat) (z : List Int) (A : Nat → Addr) (w : World) (e : Ending) (w' : World) : Prop :=
  Below w.heap.size w w' ∧ (((∀ v H, ¬ Chg v W n z H) ∧ ∃ a, e = fx_v A a) ∨
    ∃ (v : List UInt8) (H : List Nat) (x1 : Value) (o2 : Option Addr) (d c2 L : Nat), Chg v W n z H ∧ e = .returned (.tuple #[.agg #[x1, .slice o2 d c2, .int .i64 (L : Int)], .nilIface]) ∧ RowV v x1 w')
def GnlAt (G : List (List UInt8)) (n : Nat) (w : World) (v iv : Value) (wr : World) : Prop :=
  ∃ k : Nat, k ≤ n ∧ iv = .int .i64 k ∧ wr.ownsRow w.heap.size 3 1 v (gnL G k).length (intsV (gnL G k)) ∧ Below w.heap.size w wr
def mM (vs : Nat → List UInt8) (k : Nat) (i j : Nat) : UInt8 := if j < k then co (vs j) i else 0
theorem mM_step (vs us : Nat → List UInt8) (v : List UInt8) (k n i b : Nat) (hi : i < n) (hu : us = fun j => if j = k then v else vs j) : layM (mM vs k) v k n i b = mM us (k + 1) i b := by
  subst hu
  unfold layM mM
  by_cases h : b = k
  · subst h
    rw [if_pos ⟨rfl, hi⟩, if_pos (by omega)]
    simp
  · rw [if_neg (fun g => h g.1)]
    by_cases h2 : b < k
    · rw [if_pos h2, if_pos (by omega)]
      simp [h]
    · rw [if_neg h2, if_neg (by omega)]
def MeiAt (G : List (List UInt8)) (n gO : Nat) (Gb : Nat → Nat) (w : World) (iv : Value) (wr : World) : Prop :=
  ∃ (k : Nat) (vs : Nat → List UInt8), k ≤ 8 ∧ iv = .int .i64 k ∧ (∀ j, j < k → ∃ H, Chg (vs j) (colB G j) n (gnL G n) H) ∧ Mat8 wr w.heap.size gO n Gb (mM vs k) ∧ Below w.heap.size w wr
def MdTo (G : List (List UInt8)) (n : Nat) (u : TypeId) (v : Value) (w : World) (e : Ending) (w' : World) : Prop :=
  Below w.heap.size w w' ∧ (((∀ vs, ¬ Mnd G n vs) ∧ e = .returned (.tuple #[.slice none 0 0, .iface u v])) ∨
    ∃ (vs : Nat → List UInt8) (gO B : Nat) (Gb : Nat → Nat), Mnd G n vs ∧ e = .returned (.tuple #[.slice (some ⟨gO, 0, none⟩) n n, .nilIface]) ∧ Mat8 w' B gO n Gb (mM vs 8))
theorem md_rb {W : World} {B gO n : Nat} {Gb : Nat → Nat} {vs : Nat → List UInt8} (h : Mat8 W B gO n Gb (mM vs 8)) : RbIs W (some ⟨gO, 0, none⟩) ((List.range n).map (mbk vs)) n := h.els _ (by simp) fun i hi => by
  rw [bi_map _ _ _ hi]
  refine list_ext (by simp [mbk]) fun b hb => ?_
  have hb : b < 8 := by simpa [mbk] using hb
  unfold mbk
  rw [co_tab _ _ _ hb, co_tab _ _ _ hb]
  unfold mM
  rw [if_pos hb]
end Go.Proofs.YtomkkkbdipcjgaaDoor
namespace Go.Proofs.YtomkkkbdipcjgaaDoor
open Go.RowKit
set_option linter.unusedVariables false
set_option linter.unusedSimpArgs false
def rdz : Value := .agg #[.slice none 0 0, .slice none 0 0, .slice none 0 0]
def rd_e (u : TypeId) (v : Value) : Ending := .returned (.tuple #[rdz, .iface u v])
theorem cell_in {w : World} {a : Addr} {v : Value} (h : w.cell? a = some v) : a.block < w.heap.size := by
  by_cases hh : a.block < w.heap.size
  · exact hh
  · have h0 : w.heap[a.block]? = none := Array.getElem?_eq_none (by omega)
    simp [World.cell?, h0] at h
theorem append_int_run (w : World) (ty : TypeId) (base : Nat) (v : Value) (n : Nat) (z : List Int) (hown : w.ownsRow base 3 1 v n (intsV z)) (g : Nat) (y : Int) (hg : w.cell? ⟨g, 0, none⟩ = some (.int .i64 y)) (hl : n ≤ 1000000) (hbase : base ≤ w.heap.size) :
    ∃ (o : Option Addr) (l c : Nat) (w' : World), (Builtin.append_ #[74, 74] ty #[v, .slice (some ⟨g, 0, none⟩) 1 1]).run Tryd.prog w = .ok (.slice o l c) w' ∧ w'.ownsRow base 3 1 (.slice o l c) (n + 1) (intsV (z ++ [y])) ∧ w.grownBy w' v.ownBlock ∧
      ((Value.slice o l c).ownBlock = v.ownBlock ∨ (Value.slice o l c).ownBlock = some w.heap.size) := by
  obtain ⟨i0, hi, hz0, hz1, hz2⟩ := info_parts info_int
  have hnews : ∀ (j : Nat) (u : Value), [Value.int .i64 y][j]? = some u → w.cell? ((⟨g, 0, none⟩ : Addr).add j) = some u := fun j u hj => by
    have h1 := (List.getElem?_eq_some_iff.1 hj).1
    simp at h1
    subst h1
    simp at hj
    subst hj
    exact hg
  have hone : ∀ u ∈ [Value.int .i64 y], u.oneCell' = true := fun u hu => by
    simp at hu
    subst hu
    rfl
  obtain ⟨v', w', hr, h2, h3, _⟩ := run_append_own_wide (P := Tryd.prog) w base 74 ty 3 i0 (.int .i64 0) 1 8 Tryd.underlying74 hi hz0 hz1 hz2 rfl (by decide) v n (intsV z) hown ⟨g, 0, none⟩ 1 1 [.int .i64 y] (by simp) hnews hone (by unfold maxLen; omega) (by omega) hbase
  have e : intsV (z ++ [y]) = intsV z ++ [.int .i64 y] := by simp [intsV]
  have hblk : v'.ownBlock = v.ownBlock ∨ v'.ownBlock = some w.heap.size := by
    rcases hown.2 with ⟨rfl, h0⟩ | ⟨gv, cap, cur, rfl, _, hh, hnc, hcm, hcs, htake⟩
    · have hr2 := run_append_nil (P := Tryd.prog) (w := w) 74 ty 3 i0 (.int .i64 0) Tryd.underlying74 hi hz0 ⟨g, 0, none⟩ 1 1 [.int .i64 y] (by rw [hz1]; rfl) hnews (by omega) (by omega) (by rw [hz2]; omega)
      rw [hr2] at hr
      injection hr with hr _
      subst hr
      exact .inr rfl
    · by_cases hroom : n + 1 ≤ cap
      · have hr2 := run_append_room (P := Tryd.prog) (w := w) 74 ty 3 i0 Tryd.underlying74 hi gv n cap cur hh ⟨g, 0, none⟩ 1 1 [.int .i64 y] (by rw [hz1]; rfl) hnews hone hroom (by rw [hz1, hcs]; simp; omega)
        rw [hr2] at hr
        injection hr with hr _
        subst hr
        exact .inl rfl
      · have hr2 := run_append_grow (P := Tryd.prog) (w := w) 74 ty 3 i0 (.int .i64 0) Tryd.underlying74 hi hz0 ⟨gv, 0, none⟩ n cap (intsV z) (by rw [hz1]; simpa using hown.1) (hown.cells (g := gv) rfl) ⟨g, 0, none⟩ 1 1 [.int .i64 y] (by rw [hz1]; rfl) hnews (by omega) (by omega) (by rw [hz2]; exact growslice_fits_wide (by omega) (by omega))
        rw [hr2] at hr
        injection hr with hr _
        subst hr
        exact .inr rfl
  obtain ⟨o, l, c, rfl⟩ : ∃ o l c, v' = Value.slice o l c := by
    rcases h2.2 with ⟨rfl, _⟩ | ⟨_, _, _, rfl, _⟩
    · exact ⟨_, _, _, rfl⟩
    · exact ⟨_, _, _, rfl⟩
  exact ⟨o, l, c, w', hr, by rw [e]; exact h2, h3, hblk⟩
theorem grownBy_setCell2 (w : World) (g i : Nat) (v : Value) : w.grownBy (w.setCell ⟨g, i, none⟩ v) (some g) :=
  ⟨rfl, rfl, rfl, by simp, fun k _ hk => heap_setCell_other w ⟨g, i, none⟩ k v (fun e => hk (by simp [e]))⟩
theorem owns_laterB {T : TypeId} {base n : Nat} {v : Value} {xs : List Value} {X X' : World} (h : X.ownsRow base T 1 v n xs) (hb : Below X.heap.size X X') : X'.ownsRow base T 1 v n xs :=
  World.ownsRow.kept (row := none) h ⟨hb.os, hb.tape, hb.output, hb.size, fun i hi _ => hb.block i hi⟩ (by cases v.ownBlock <;> simp)
structure Ic (b : Nat) (y : Int) (vE vC : Value) (X : World) : Prop where
  cell : X.cell? ⟨b, 0, none⟩ = some (.int .i64 y)
  lt : b < X.heap.size
  neE : vE.ownBlock ≠ some b
  neC : vC.ownBlock ≠ some b
theorem Ic.later {b : Nat} {y : Int} {vE vC : Value} {X X' : World} (h : Ic b y vE vC X) (hb : Below X.heap.size X X') : Ic b y vE vC X' := ⟨cell_laterB hb h.cell, Nat.lt_of_lt_of_le h.lt hb.size, h.neE, h.neC⟩
theorem own_ne_of {T T' : TypeId} {X : World} {b b' n n' : Nat} {v v' : Value} {xs xs' : List Value} (h : X.ownsRow b T 1 v n xs) (h' : X.ownsRow b' T' 1 v' n' xs') (hT : T ≠ T') : v.ownBlock = none ∨ v.ownBlock ≠ v'.ownBlock := by
  rcases h.2 with ⟨rfl, _⟩ | ⟨g, cap, cur, rfl, _, h1, _⟩
  · exact .inl rfl
  · refine .inr fun e => ?_
    rcases h'.2 with ⟨rfl, _⟩ | ⟨g', cap', cur', rfl, _, h2, _⟩
    · cases e
    · cases e
      rw [h1] at h2
      injection h2 with h2
      injection h2 with _ h2 _
      exact hT h2
theorem Ic.swap {b : Nat} {y : Int} {vE vC : Value} {X : World} (h : Ic b y vE vC X) : Ic b y vC vE X := ⟨h.cell, h.lt, h.neC, h.neE⟩
theorem own_slice {T : TypeId} {X : World} {b n : Nat} {v : Value} {xs : List Value} (h : X.ownsRow b T 1 v n xs) : ∃ o l c, v = Value.slice o l c := by
  rcases h.2 with ⟨rfl, _⟩ | ⟨_, _, _, rfl, _⟩
  · exact ⟨_, _, _, rfl⟩
  · exact ⟨_, _, _, rfl⟩
def RdTo (bs : List (List UInt8)) (l : List Nat) (size : Nat) (u : TypeId) (v : Value) (w : World) (e : Ending) (w' : World) : Prop :=
  Below w.heap.size w w' ∧ (((∀ V, MndAll bs l V l.length → ¬ zall ((fileG l V l.length).drop size)) ∧ e = rd_e u v) ∨
    ∃ V x0 x1 x2, MndAll bs l V l.length ∧ zall ((fileG l V l.length).drop size) ∧ e = .returned (.tuple #[.agg #[x0, x1, x2], .nilIface]) ∧ RowV ((fileG l V l.length).take size) x0 w' ∧ IntsV (erG bs l l.length) x1 w' ∧ IntsV (chG bs l V l.length) x2 w')
end Go.Proofs.YtomkkkbdipcjgaaDoor
