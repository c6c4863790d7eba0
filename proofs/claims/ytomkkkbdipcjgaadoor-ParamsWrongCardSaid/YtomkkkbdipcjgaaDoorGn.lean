/- Contracts of the document's answers for polynomials, by definition: At, Trim, Eval. Contracts of the document's product, sum and value, coefficient by coefficient. Contracts of the document's value and sum, and of Zeros. Contracts of the document's sum, and of Zeros. The document's generator. The document's parity symbols: long division leaves what makes a code word. The document's syndromes. -/
import Derived.Test.YtomkkkbdipcjgaaDoorApw
import Derived.Test.YtomkkkbdipcjgaaDoorFwm
import Derived.Test.YtomkkkbdipcjgaaDoorGf
import Derived.Test.YtomkkkbdipcjgaaDoorMu
import Derived.Deep.Onto
namespace Go.Proofs.YtomkkkbdipcjgaaDoor
open Go.RowKit
set_option linter.unusedVariables false
set_option linter.unusedSimpArgs false
def RtAt (p : List UInt8) (n : Value) : Prop := ∃ k : Nat, k ≤ p.length ∧ tl p p.length = tl p k ∧ n = .int .i64 k
end Go.Proofs.YtomkkkbdipcjgaaDoor
namespace Go.Proofs.YtomkkkbdipcjgaaDoor
open Go.RowKit
set_option linter.unusedVariables false
set_option linter.unusedSimpArgs false
def cf (p q : List UInt8) (k : Nat) : UInt8 := Gf.sm (fun i => Gf.gm (co p i) (co q (k - i))) (k + 1)
theorem tab_cf (p q : List UInt8) : tab (cf p q) (p.length + q.length) = mulL p q := by
  refine list_ext (by simp [mulL]) fun i hi => ?_
  rw [co_tab _ _ _ (by simpa using hi), co_mulL']; rfl
theorem tab_succ (F : Nat → UInt8) (k : Nat) : tab F k ++ [F k] = tab F (k + 1) := by simp [tab, List.range_succ]
theorem own_dn {W W' : World} {n : Nat} {v : Value} {xs : List Value} {m : Nat} (h : W.ownsRow n 5 1 v m xs) (hd : Kit.Dn W W') : W'.ownsRow n 5 1 v m xs := by
  obtain ⟨k, rfl⟩ := hd
  exact h
def RoAt (p q : List UInt8) (w : World) (v kv : Value) (wr : World) : Prop :=
  ∃ k : Nat, k ≤ p.length + q.length ∧ kv = .int .i64 k ∧ wr.ownsRow w.heap.size 5 1 v k (bytesV (tab (cf p q) k)) ∧ Below w.heap.size w wr
def RiAt (p q : List UInt8) (k : Nat) (w : World) (c iv : Value) (wr : World) : Prop :=
  ∃ i : Nat, i ≤ k + 1 ∧ iv = .int .i64 i ∧ c = .int .u8 ((Gf.sm (fun i => Gf.gm (co p i) (co q (k - i))) i).toNat : Int) ∧ Kit.Dn w wr
end Go.Proofs.YtomkkkbdipcjgaaDoor
namespace Go.Proofs.YtomkkkbdipcjgaaDoor
open Go.RowKit
set_option linter.unusedVariables false
set_option linter.unusedSimpArgs false
def ReAt (z : List UInt8) (x : UInt8) (out pw i : Value) : Prop :=
  ∃ k : Nat, k ≤ z.length ∧ i = .int .i64 k ∧ out = .int .u8 ((Gf.ev k (co z) x).toNat : Int) ∧ pw = .int .u8 ((Gf.px x k).toNat : Int)
end Go.Proofs.YtomkkkbdipcjgaaDoor
namespace Go.Proofs.YtomkkkbdipcjgaaDoor
open Go.RowKit
set_option linter.unusedVariables false
set_option linter.unusedSimpArgs false
def RaAt (p q : List UInt8) (w : World) (v kv : Value) (wr : World) : Prop :=
  ∃ k : Nat, k ≤ max p.length q.length ∧ kv = .int .i64 k ∧ wr.ownsRow w.heap.size 5 1 v k (bytesV (tab (fun i => co p i ^^^ co q i) k)) ∧ Below w.heap.size w wr
/-- where a polynomial is 0, of the first k numbers -/
def zl (p : List UInt8) : Nat → List UInt8
  | 0 => []
  | k + 1 => if evL p (UInt8.ofNat k) = 0 then zl p k ++ [UInt8.ofNat k] else zl p k
theorem zl_length (p : List UInt8) (k : Nat) : (zl p k).length ≤ k := by
  induction k with
  | zero => exact Nat.le_refl _
  | succ k ih =>
    rw [zl]
    split
    · simp; omega
    · omega
end Go.Proofs.YtomkkkbdipcjgaaDoor
namespace Go.Proofs.YtomkkkbdipcjgaaDoor
open Go.RowKit
set_option linter.unusedVariables false
set_option linter.unusedSimpArgs false
/-- times (x + r) -/
def nx (G : List UInt8) (r : UInt8) : List UInt8 := tab (fun m => Gf.gm (co G m) r ^^^ (if m = 0 then 0 else co G (m - 1))) (G.length + 1)
def genL : Nat → List UInt8
  | 0 => [1]
  | k + 1 => nx (genL k) (Gf.al k)
theorem genL_length (k : Nat) : (genL k).length = k + 1 := by
  induction k with
  | zero => rfl
  | succ k ih => simp [genL, nx, ih]
theorem co_nx (G : List UInt8) (r : UInt8) (m : Nat) : co (nx G r) m = Gf.gm (co G m) r ^^^ (if m = 0 then 0 else co G (m - 1)) :=
  co_tab' _ _ _ fun j hj => by
    rw [co_ge (by omega), Gf.zero_gm, if_neg (by omega), co_ge (by omega)]; rfl
theorem ev_nx (G : List UInt8) (r x : UInt8) : evL (nx G r) x = Gf.gm (evL G x) (r ^^^ x) := by
  have h : ∀ m, co (nx G r) m = Gf.gm (co G m) r ^^^ Gf.ps 1 (co G) m := fun m => by
    rw [co_nx]
    unfold Gf.ps
    congr 1
    by_cases e : m = 0
    · rw [if_pos e, if_neg (by omega)]
    · rw [if_neg e, if_pos (by omega)]
  have hl : (nx G r).length = G.length + 1 := by simp [nx]
  unfold evL
  rw [hl, Gf.ev_congr (fun i _ => h i), Gf.ev_xor]
  rw [Nat.add_comm G.length 1, Gf.ev_ps, Gf.gm_xor, Gf.ev_congr (g := fun i => Gf.gm r (co G i)) (fun i _ => Gf.gm_comm _ _), Gf.ev_gm]
  rw [Gf.ev_more (n := G.length) (m := 1 + G.length) (by omega) (fun i hi => co_ge hi), Gf.gm_comm r, show Gf.px x 1 = x by show Gf.gm 1 x = x; exact Gf.one_gm x, Gf.gm_comm x]
theorem gen_root (k j : Nat) (h : j < k) : evL (genL k) (Gf.al j) = 0 := by
  induction k with
  | zero => omega
  | succ k ih =>
    rw [genL, ev_nx]
    by_cases e : j = k
    · rw [e, UInt8.xor_self, Gf.gm_zero]
    · rw [ih (by omega), Gf.zero_gm]
theorem gen_top (k : Nat) : co (genL k) k = 1 := by
  induction k with
  | zero => rfl
  | succ k ih => rw [genL, co_nx, co_ge (by rw [genL_length]; omega), Gf.zero_gm, if_neg (by omega), Nat.add_sub_cancel, ih]; rfl
/-- the next one, when i coefficients have been added -/
def nxAt (G : List UInt8) (r : UInt8) (i : Nat) : List UInt8 := tab (fun m => (if m < i then Gf.gm (co G m) r else 0) ^^^ (if 1 ≤ m ∧ m ≤ i then co G (m - 1) else 0)) (G.length + 1)
@[simp] theorem nxAt_length (G : List UInt8) (r : UInt8) (i : Nat) : (nxAt G r i).length = G.length + 1 := by simp [nxAt]
theorem co_nxAt (G : List UInt8) (r : UInt8) (i m : Nat) (h : m < G.length + 1) : co (nxAt G r i) m = (if m < i then Gf.gm (co G m) r else 0) ^^^ (if 1 ≤ m ∧ m ≤ i then co G (m - 1) else 0) := co_tab _ _ _ h
theorem nxAt_zero (G : List UInt8) (r : UInt8) : nxAt G r 0 = List.replicate (G.length + 1) 0 := by
  refine list_ext (by simp) fun i hi => ?_
  simp at hi
  rw [co_nxAt _ _ _ _ hi, if_neg (by omega), if_neg (by omega)]
  simp [co, List.getD_eq_getElem?_getD, List.getElem?_replicate, hi]
theorem nxAt_full (G : List UInt8) (r : UInt8) : nxAt G r G.length = nx G r := by
  refine list_ext (by simp [nx]) fun i hi => ?_
  simp at hi
  rw [co_nxAt _ _ _ _ hi, co_nx]
  congr 1
  · by_cases e : i < G.length
    · rw [if_pos e]
    · rw [if_neg e, co_ge (by omega), Gf.zero_gm]
  · by_cases e : i = 0
    · rw [if_pos e, if_neg (by omega)]
    · rw [if_neg e, if_pos (by omega)]
theorem nxAt_one (G : List UInt8) (r : UInt8) (i : Nat) (h : i < G.length) : co (nxAt G r i) i = (if i = 0 then 0 else co G (i - 1)) := by
  rw [co_nxAt _ _ _ _ (by omega), if_neg (by omega), UInt8.zero_xor]
  by_cases e : i = 0
  · rw [if_pos e, if_neg (by omega)]
  · rw [if_neg e, if_pos (by omega)]
theorem nxAt_two (G : List UInt8) (r : UInt8) (i : Nat) (h : i < G.length) : co (nxAt G r i) (i + 1) = 0 := by
  rw [co_nxAt _ _ _ _ (by omega), if_neg (by omega), if_neg (by omega)]; rfl
theorem nxAt_step (G : List UInt8) (r : UInt8) (i : Nat) (h : i < G.length) (s : UInt8) (hs : s = co (nxAt G r i) i ^^^ Gf.gm (co G i) r) : ((nxAt G r i).set i s).set (i + 1) (co G i) = nxAt G r (i + 1) := by
  refine list_ext (by simp) fun m hm => ?_
  simp at hm
  rw [co_nxAt _ _ _ _ hm, co_set, co_set]
  by_cases e1 : i + 1 = m
  · subst e1
    rw [if_pos ⟨rfl, by simp; omega⟩, if_neg (by omega), if_pos (by omega), UInt8.zero_xor, Nat.add_sub_cancel]
  · rw [if_neg (fun h => e1 h.1)]
    by_cases e2 : i = m
    · subst e2
      have e3 : (if i < i + 1 then Gf.gm (co G i) r else 0) = Gf.gm (co G i) r := if_pos (by omega)
      have e4 : (if 1 ≤ i ∧ i ≤ i + 1 then co G (i - 1) else 0) = (if i = 0 then 0 else co G (i - 1)) := by
        by_cases e : i = 0
        · rw [if_pos e, if_neg (by omega)]
        · rw [if_neg e, if_pos (by omega)]
      rw [if_pos ⟨rfl, by simp; omega⟩, hs, nxAt_one _ _ _ h, e3, e4, UInt8.xor_comm]
    · rw [if_neg (fun h => e2 h.1), co_nxAt _ _ _ _ hm]
      congr 1
      · by_cases e : m < i
        · rw [if_pos e, if_pos (by omega)]
        · rw [if_neg e, if_neg (by omega)]
      · by_cases e : 1 ≤ m ∧ m ≤ i
        · rw [if_pos e, if_pos (by omega)]
        · rw [if_neg e, if_neg (by omega)]
def GnAt (w : World) (v r i : Value) (wr : World) : Prop :=
  ∃ k : Nat, k ≤ 32 ∧ i = .int .i64 k ∧ r = .int .u8 ((Gf.al k).toNat : Int) ∧ RowV (genL k) v wr ∧ Below w.heap.size w wr
def GiAt (G : List UInt8) (r : UInt8) (w : World) (g : Nat) (i : Value) (wr : World) : Prop :=
  ∃ k : Nat, k ≤ G.length ∧ i = .int .i64 k ∧ Buf wr g (G.length + 1) (nxAt G r k) ∧ Only g w wr
end Go.Proofs.YtomkkkbdipcjgaaDoor
namespace Go.Proofs.YtomkkkbdipcjgaaDoor
open Go.RowKit
set_option linter.unusedVariables false
set_option linter.unusedSimpArgs false
/-- a row when k coefficients, the highest first, of a polynomial times a number have been added from place i on -/
def mixr (R G : List UInt8) (i : Nat) (y : UInt8) (k : Nat) : List UInt8 := tab (fun m => co R m ^^^ (if i ≤ m ∧ m < i + k then Gf.gm y (co G (32 - (m - i))) else 0)) R.length
@[simp] theorem mixr_length (R G : List UInt8) (i : Nat) (y : UInt8) (k : Nat) : (mixr R G i y k).length = R.length := by simp [mixr]
theorem co_mixr (R G : List UInt8) (i : Nat) (y : UInt8) (k m : Nat) (h : m < R.length) : co (mixr R G i y k) m = co R m ^^^ (if i ≤ m ∧ m < i + k then Gf.gm y (co G (32 - (m - i))) else 0) := co_tab _ _ _ h
theorem mixr_zero (R G : List UInt8) (i : Nat) (y : UInt8) : mixr R G i y 0 = R := list_ext (by simp) fun m hm => by
  simp at hm
  rw [co_mixr _ _ _ _ _ _ hm, if_neg (by omega), UInt8.xor_zero]
theorem mixr_none (R G : List UInt8) (i k : Nat) : mixr R G i 0 (k + 1) = mixr R G i 0 k := list_ext (by simp) fun m hm => by
  simp at hm
  rw [co_mixr _ _ _ _ _ _ hm, co_mixr _ _ _ _ _ _ hm, Gf.zero_gm]
  simp
theorem mixr_step (R G : List UInt8) (i : Nat) (y : UInt8) (k : Nat) (h : i + k < R.length) : (mixr R G i y k).set (i + k) (co (mixr R G i y k) (i + k) ^^^ Gf.gm y (co G (32 - k))) = mixr R G i y (k + 1) := list_ext (by simp) fun m hm => by
  simp at hm
  rw [co_set, co_mixr R G i y (k + 1) m hm]
  by_cases e : i + k = m
  · subst e
    have e1 : co (mixr R G i y k) (i + k) = co R (i + k) := by rw [co_mixr R G i y k _ hm, if_neg (by omega), UInt8.xor_zero]
    rw [if_pos ⟨rfl, by simpa using hm⟩, e1, if_pos (by omega), show i + k - i = k by omega]
  · rw [if_neg (fun h => e h.1), co_mixr R G i y k m hm]
    by_cases e2 : i ≤ m ∧ m < i + k
    · rw [if_pos e2, if_pos (by omega)]
    · rw [if_neg e2, if_neg (by omega)]
theorem co_app (a b : List UInt8) (m : Nat) : co (a ++ b) m = if m < a.length then co a m else co b (m - a.length) := by
  simp only [co, List.getD_eq_getElem?_getD]
  by_cases h : m < a.length
  · rw [if_pos h, List.getElem?_append_left h]
  · rw [if_neg h, List.getElem?_append_right (by omega)]
theorem co_sumW (a b : List UInt8) (h : a.length = b.length) (m : Nat) : co (Gf.sumW a b) m = co a m ^^^ co b m := by
  by_cases hm : m < a.length
  · simp [co, Gf.sumW, List.getD_eq_getElem?_getD, List.getElem?_zipWith, hm, show m < b.length by omega]
  · rw [co_ge (by simp [Gf.sumW]; omega), co_ge (by omega), co_ge (by omega)]; rfl
theorem co_zeros (n m : Nat) : co (List.replicate n 0) m = 0 := by
  simp only [co, List.getD_eq_getElem?_getD, List.getElem?_replicate]
  split <;> rfl
theorem co_map (y : UInt8) (a : List UInt8) (m : Nat) : co (a.map (Gf.gm y)) m = Gf.gm y (co a m) := by
  by_cases hm : m < a.length
  · simp [co, List.getD_eq_getElem?_getD, hm]
  · rw [co_ge (by simpa using hm), co_ge (by omega), Gf.gm_zero]
theorem co_rev (a : List UInt8) (m : Nat) (h : m < a.length) : co a.reverse m = co a (a.length - 1 - m) := by
  simp [co, List.getD_eq_getElem?_getD, h, List.getElem?_reverse, show a.length - 1 - m < a.length by omega]
/-- the whole of it leaves the values where the polynomial is 0 -/
theorem mixr_hv (R G : List UInt8) (i : Nat) (y x : UInt8) (hG : G.length = 33) (h : i + 33 ≤ R.length) (hx : evL G x = 0) : Gf.hv x (mixr R G i y 33) = Gf.hv x R := by
  have hl : R.length = (List.replicate i 0 ++ (G.reverse.map (Gf.gm y) ++ List.replicate (R.length - i - 33) 0)).length := by simp [hG]; omega
  have e : mixr R G i y 33 = Gf.sumW R (List.replicate i 0 ++ (G.reverse.map (Gf.gm y) ++ List.replicate (R.length - i - 33) 0)) := by
    refine list_ext (by simp [Gf.sumW, hG]; omega) fun m hm => ?_
    simp at hm
    rw [co_mixr _ _ _ _ _ _ hm, co_sumW _ _ hl]
    congr 1
    rw [co_app]
    simp only [List.length_replicate]
    by_cases e1 : m < i
    · rw [if_pos e1, if_neg (by omega), co_zeros]
    · rw [if_neg e1, co_app]
      simp only [List.length_map, List.length_reverse, hG]
      by_cases e2 : m - i < 33
      · rw [if_pos e2, if_pos (by omega), co_map, co_rev _ _ (by omega), hG]
      · rw [if_neg e2, if_neg (by omega), co_zeros]
  rw [e, Gf.hv_sum _ _ _ hl, Gf.hv_app, Gf.hv_zeros, Gf.zero_gm, Gf.hv_app, Gf.hv_scale, hv_reverse, hx, Gf.gm_zero, Gf.zero_gm, Gf.hv_zeros]
  simp
/-- between the rounds -/
structure PR (d R : List UInt8) (i : Nat) : Prop where
  len : R.length = d.length + 32
  same : ∀ j, j < 32 → Gf.hv (Gf.al j) R = Gf.hv (Gf.al j) (d ++ List.replicate 32 0)
  low : ∀ m, m < i → co R m = 0
theorem PR.step {d R : List UInt8} {i : Nat} (h : PR d R i) (hi : i < d.length) : PR d (mixr R (genL 32) i (co R i) 33) (i + 1) := by
  have hl := h.len
  refine ⟨by simpa using hl, fun j hj => ?_, fun m hm => ?_⟩
  · rw [mixr_hv _ _ _ _ _ (genL_length 32) (by omega) (gen_root 32 j hj)]
    exact h.same j hj
  · rw [co_mixr _ _ _ _ _ _ (by omega)]
    by_cases e : m = i
    · subst e
      rw [if_pos (by omega), Nat.sub_self, Nat.sub_zero, gen_top 32, Gf.gm_one, UInt8.xor_self]
    · rw [if_neg (by omega), h.low m (by omega)]; rfl
theorem PR.done {d R : List UInt8} (h : PR d R d.length) : (R.drop d.length).length = 32 ∧ IsCode (d ++ R.drop d.length) := by
  have hl := h.len
  have hr : (R.drop d.length).length = 32 := by simp; omega
  refine ⟨hr, fun j hj => ?_⟩
  have e : R = List.replicate d.length 0 ++ R.drop d.length := by
    refine list_ext (by simp; omega) fun m hm => ?_
    rw [co_app]
    simp only [List.length_replicate]
    by_cases e1 : m < d.length
    · rw [if_pos e1, co_zeros, h.low m e1]
    · rw [if_neg e1]
      simp [co, List.getD_eq_getElem?_getD, show d.length + (m - d.length) = m by omega]
  have h1 := h.same j hj
  rw [e, Gf.hv_app, Gf.hv_zeros, Gf.zero_gm, UInt8.zero_xor, Gf.hv_app, Gf.hv_zeros, UInt8.xor_zero, List.length_replicate] at h1
  rw [Gf.hv_app, hr, h1, UInt8.xor_self]
theorem Buf.drop {W : World} {g cap : Nat} {ys : List UInt8} (h : Buf W g cap ys) (n : Nat) (hn : n ≤ ys.length) : RowIs W (some ⟨g, n, none⟩) (bytesV (ys.drop n)) (cap - n) :=
  ⟨by have := h.le; simp; omega, by have := h.le; omega, fun h => (by cases h), fun h0 => ⟨g, n, rfl, h.lt, fun i v hv => by
    have hi : i < (ys.drop n).length := by
      have := (List.getElem?_eq_some_iff.1 hv).1
      simpa using this
    simp at hi
    have h1 := h.cell (n + i) (by omega)
    have h2 := bytesV_get (ys.drop n) i (by simp; omega)
    rw [h2] at hv
    rw [h1, ← hv]
    simp [co, List.getD_eq_getElem?_getD]⟩⟩
theorem PR.start (d : List UInt8) : PR d (d ++ List.replicate 32 0) 0 := ⟨by simp, fun _ _ => rfl, fun m h => absurd h (by omega)⟩
def PoAt (d : List UInt8) (g cap : Nat) (w : World) (iv : Value) (wr : World) : Prop :=
  ∃ (i : Nat) (R : List UInt8), i ≤ d.length ∧ iv = .int .i64 i ∧ PR d R i ∧ Buf wr g cap R ∧ Only g w wr
def PiAt (R : List UInt8) (i : Nat) (y : UInt8) (g cap : Nat) (w : World) (kv : Value) (wr : World) : Prop :=
  ∃ k : Nat, k ≤ 33 ∧ kv = .int .i64 k ∧ Buf wr g cap (mixr R (genL 32) i y k) ∧ Only g w wr
def ParTo (d : List UInt8) (w : World) (e : Ending) (w' : World) : Prop :=
  ∃ r x, r.length = 32 ∧ IsCode (d ++ r) ∧ e = .returned (.tuple #[x, .int .i64 0]) ∧ RowV r x w' ∧ Below w.heap.size w w'
/-- the same, and its block is of bytes -/
def ParToK (d : List UInt8) (w : World) (e : Ending) (w' : World) : Prop :=
  ∃ r x, r.length = 32 ∧ IsCode (d ++ r) ∧ e = .returned (.tuple #[x, .int .i64 0]) ∧ RowV r x w' ∧ Below w.heap.size w w' ∧ ∃ g off q cur, x = .slice (some ⟨g, off, none⟩) 32 q ∧ w'.heap[g]? = some (.cells cur 5 (0, 0))
end Go.Proofs.YtomkkkbdipcjgaaDoor
namespace Go.Proofs.YtomkkkbdipcjgaaDoor
open Go.RowKit
set_option linter.unusedVariables false
set_option linter.unusedSimpArgs false
/-- a word's syndromes -/
def synL (z : List UInt8) : List UInt8 := tab (fun j => Gf.hv (Gf.al j) z) 32
@[simp] theorem synL_length (z : List UInt8) : (synL z).length = 32 := by simp [synL]
def zsyn : List UInt8 := List.replicate 32 0
theorem zero_syn (w : World) : Sem.run Tryd.prog (zeroValue 125) w = .ok (.agg (bytesV zsyn).toArray) w := by kernel_rfl
def SoAt (z : List UInt8) (w : World) (g g0 : Nat) (x i : Value) (wr : World) : Prop :=
  ∃ k : Nat, k ≤ 32 ∧ i = .int .i64 k ∧ x = .int .u8 ((Gf.al k).toNat : Int) ∧ (∃ ys : List UInt8, ys.length = 32 ∧ (∀ j, j < k → co ys j = Gf.hv (Gf.al j) z) ∧ wr.heap[g]? = some (.cells (bytesV ys).toArray 125 (0, 0))) ∧
    wr.heap[g0]? = some (.cells (bytesV zsyn).toArray 125 (0, 0)) ∧ Below w.heap.size w wr
def SiAt (z : List UInt8) (x : UInt8) (w : World) (v i : Value) (wr : World) : Prop :=
  ∃ k : Nat, k ≤ z.length ∧ i = .int .i64 k ∧ v = .int .u8 ((Gf.hv x (z.take k)).toNat : Int) ∧ wr = w
theorem one_cell (ys : List UInt8) : (bytesV ys).toArray.all (·.oneCell') = true := by
  rw [Array.all_eq_true_iff_forall_mem]
  intro x hx
  simp only [bytesV, List.mem_toArray, List.mem_map] at hx
  obtain ⟨b, _, rfl⟩ := hx
  rfl
theorem syn_info : (Tryd.prog.info? 125).map (·.size) = some 32 := by kernel_rfl
theorem syn_under : Tryd.prog.underlying 125 = some (.array 32 5) := by kernel_rfl
theorem syn_size {ys : List UInt8} (h : ys.length = 32) : (Tryd.prog.info? 125).map (·.size) = some (bytesV ys).toArray.size := by
  rw [syn_info]; simp [h]
theorem take_step (z : List UInt8) (k : Nat) (h : k < z.length) : z.take (k + 1) = z.take k ++ [co z k] := by
  rw [List.take_add_one, List.getElem?_eq_getElem h]
  simp [co, h]
theorem below_setRow {n g : Nat} {w : World} {cs : Array Value} (h : n ≤ g) : Below n w (w.setRow g cs) :=
  ⟨rfl, rfl, rfl, by simp [World.setRow], fun k hk => setRow_other w g k cs (by omega)⟩
theorem cells_set (ys : List UInt8) (i : Nat) (b : UInt8) : (bytesV ys).toArray.setIfInBounds i (.int .u8 (b.toNat : Int)) = (bytesV (ys.set i b)).toArray := by
  rw [← bytesV_set]
  simp
theorem dn_block {a b : World} (h : Kit.Dn a b) (k : Nat) : b.heap[k]? = a.heap[k]? := by
  obtain ⟨n, rfl⟩ := h
  rfl
end Go.Proofs.YtomkkkbdipcjgaaDoor
