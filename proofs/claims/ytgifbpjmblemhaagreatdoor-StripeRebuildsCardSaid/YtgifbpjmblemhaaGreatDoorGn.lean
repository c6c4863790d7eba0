/- The document's generator. The document's parity symbols: long division leaves what makes a code word. The document's syndromes. -/
import Derived.Test.YtgifbpjmblemhaaGreatDoorGf
import Derived.Test.YtgifbpjmblemhaaGreatDoorRr
import Derived.Test.YtgifbpjmblemhaaGreatDoorTm
import Derived.Test.YtgifbpjmblemhaaGreatDoorMu
import Derived.Test.YtgifbpjmblemhaaGreatDoorApw
import Derived.Deep.Onto
import Derived.Test.YtgifbpjmblemhaaGreatDoorFwm
namespace Go.Proofs.YtgifbpjmblemhaaGreatDoor
open Go.RowKit
set_option linter.unusedVariables false
set_option linter.unusedSimpArgs false
/-- times (x + r) -/
def nx (G : List UInt8) (r : UInt8) : List UInt8 := tab (fun m => Gf.gm (co G m) r ^^^ (if m = 0 then 0 else co G (m - 1))) (G.length + 1)
def genL : Nat → List UInt8
  | 0 => [1]
  | k + 1 => nx (genL k) (Gf.al k)
theorem genL_length (k : Nat) : (genL k).length = k + 1 := by
  induction k with
  | zero => rfl
  | succ k ih => simp [genL, nx, ih]
theorem co_nx (G : List UInt8) (r : UInt8) (m : Nat) : co (nx G r) m = Gf.gm (co G m) r ^^^ (if m = 0 then 0 else co G (m - 1)) :=
  co_tab' _ _ _ fun j hj => by
    rw [co_ge (by omega), Gf.zero_gm, if_neg (by omega), co_ge (by omega)]; rfl
theorem ev_nx (G : List UInt8) (r x : UInt8) : evL (nx G r) x = Gf.gm (evL G x) (r ^^^ x) := by
  have h : ∀ m, co (nx G r) m = Gf.gm (co G m) r ^^^ Gf.ps 1 (co G) m := fun m => by
    rw [co_nx]
    unfold Gf.ps
    congr 1
    by_cases e : m = 0
    · rw [if_pos e, if_neg (by omega)]
    · rw [if_neg e, if_pos (by omega)]
  have hl : (nx G r).length = G.length + 1 := by simp [nx]
  unfold evL
  rw [hl, Gf.ev_congr (fun i _ => h i), Gf.ev_xor]
  rw [Nat.add_comm G.length 1, Gf.ev_ps, Gf.gm_xor, Gf.ev_congr (g := fun i => Gf.gm r (co G i)) (fun i _ => Gf.gm_comm _ _), Gf.ev_gm]
  rw [Gf.ev_more (n := G.length) (m := 1 + G.length) (by omega) (fun i hi => co_ge hi), Gf.gm_comm r, show Gf.px x 1 = x by show Gf.gm 1 x = x; exact Gf.one_gm x, Gf.gm_comm x]
theorem gen_root (k j : Nat) (h : j < k) : evL (genL k) (Gf.al j) = 0 := by
  induction k with
  | zero => omega
  | succ k ih =>
    rw [genL, ev_nx]
    by_cases e : j = k
    · rw [e, UInt8.xor_self, Gf.gm_zero]
    · rw [ih (by omega), Gf.zero_gm]
theorem gen_top (k : Nat) : co (genL k) k = 1 := by
  induction k with
  | zero => rfl
  | succ k ih => rw [genL, co_nx, co_ge (by rw [genL_length]; omega), Gf.zero_gm, if_neg (by omega), Nat.add_sub_cancel, ih]; rfl
/-- the next one, when i coefficients have been added -/
def nxAt (G : List UInt8) (r : UInt8) (i : Nat) : List UInt8 := tab (fun m => (if m < i then Gf.gm (co G m) r else 0) ^^^ (if 1 ≤ m ∧ m ≤ i then co G (m - 1) else 0)) (G.length + 1)
@[simp] theorem nxAt_length (G : List UInt8) (r : UInt8) (i : Nat) : (nxAt G r i).length = G.length + 1 := by simp [nxAt]
theorem co_nxAt (G : List UInt8) (r : UInt8) (i m : Nat) (h : m < G.length + 1) : co (nxAt G r i) m = (if m < i then Gf.gm (co G m) r else 0) ^^^ (if 1 ≤ m ∧ m ≤ i then co G (m - 1) else 0) := co_tab _ _ _ h
theorem nxAt_zero (G : List UInt8) (r : UInt8) : nxAt G r 0 = List.replicate (G.length + 1) 0 := by
  refine list_ext (by simp) fun i hi => ?_
  simp at hi
  rw [co_nxAt _ _ _ _ hi, if_neg (by omega), if_neg (by omega)]
  simp [co, List.getD_eq_getElem?_getD, List.getElem?_replicate, hi]
theorem nxAt_full (G : List UInt8) (r : UInt8) : nxAt G r G.length = nx G r := by
  refine list_ext (by simp [nx]) fun i hi => ?_
  simp at hi
  rw [co_nxAt _ _ _ _ hi, co_nx]
  congr 1
  · by_cases e : i < G.length
    · rw [if_pos e]
    · rw [if_neg e, co_ge (by omega), Gf.zero_gm]
  · by_cases e : i = 0
    · rw [if_pos e, if_neg (by omega)]
    · rw [if_neg e, if_pos (by omega)]
theorem nxAt_one (G : List UInt8) (r : UInt8) (i : Nat) (h : i < G.length) : co (nxAt G r i) i = (if i = 0 then 0 else co G (i - 1)) := by
  rw [co_nxAt _ _ _ _ (by omega), if_neg (by omega), UInt8.zero_xor]
  by_cases e : i = 0
  · rw [if_pos e, if_neg (by omega)]
  · rw [if_neg e, if_pos (by omega)]
theorem nxAt_two (G : List UInt8) (r : UInt8) (i : Nat) (h : i < G.length) : co (nxAt G r i) (i + 1) = 0 := by
  rw [co_nxAt _ _ _ _ (by omega), if_neg (by omega), if_neg (by omega)]; rfl
theorem nxAt_step (G : List UInt8) (r : UInt8) (i : Nat) (h : i < G.length) (s : UInt8) (hs : s = co (nxAt G r i) i ^^^ Gf.gm (co G i) r) : ((nxAt G r i).set i s).set (i + 1) (co G i) = nxAt G r (i + 1) := by
  refine list_ext (by simp) fun m hm => ?_
  simp at hm
  rw [co_nxAt _ _ _ _ hm, co_set, co_set]
  by_cases e1 : i + 1 = m
  · subst e1
    rw [if_pos ⟨rfl, by simp; omega⟩, if_neg (by omega), if_pos (by omega), UInt8.zero_xor, Nat.add_sub_cancel]
  · rw [if_neg (fun h => e1 h.1)]
    by_cases e2 : i = m
    · subst e2
      have e3 : (if i < i + 1 then Gf.gm (co G i) r else 0) = Gf.gm (co G i) r := if_pos (by omega)
      have e4 : (if 1 ≤ i ∧ i ≤ i + 1 then co G (i - 1) else 0) = (if i = 0 then 0 else co G (i - 1)) := by
        by_cases e : i = 0
        · rw [if_pos e, if_neg (by omega)]
        · rw [if_neg e, if_pos (by omega)]
      rw [if_pos ⟨rfl, by simp; omega⟩, hs, nxAt_one _ _ _ h, e3, e4, UInt8.xor_comm]
    · rw [if_neg (fun h => e2 h.1), co_nxAt _ _ _ _ hm]
      congr 1
      · by_cases e : m < i
        · rw [if_pos e, if_pos (by omega)]
        · rw [if_neg e, if_neg (by omega)]
      · by_cases e : 1 ≤ m ∧ m ≤ i
        · rw [if_pos e, if_pos (by omega)]
        · rw [if_neg e, if_neg (by omega)]
def GnAt (w : World) (v r i : Value) (wr : World) : Prop :=
  ∃ k : Nat, k ≤ 32 ∧ i = .int .i64 k ∧ r = .int .u8 ((Gf.al k).toNat : Int) ∧ RowV (genL k) v wr ∧ Below w.heap.size w wr
def GiAt (G : List UInt8) (r : UInt8) (w : World) (g : Nat) (i : Value) (wr : World) : Prop :=
  ∃ k : Nat, k ≤ G.length ∧ i = .int .i64 k ∧ Buf wr g (G.length + 1) (nxAt G r k) ∧ Only g w wr
end Go.Proofs.YtgifbpjmblemhaaGreatDoor
namespace Go.Proofs.YtgifbpjmblemhaaGreatDoor
open Go.RowKit
set_option linter.unusedVariables false
set_option linter.unusedSimpArgs false
/-- a row when k coefficients, the highest first, of a polynomial times a number have been added from place i on -/
def mixr (R G : List UInt8) (i : Nat) (y : UInt8) (k : Nat) : List UInt8 := tab (fun m => co R m ^^^ (if i ≤ m ∧ m < i + k then Gf.gm y (co G (32 - (m - i))) else 0)) R.length
@[simp] theorem mixr_length (R G : List UInt8) (i : Nat) (y : UInt8) (k : Nat) : (mixr R G i y k).length = R.length := by simp [mixr]
theorem co_mixr (R G : List UInt8) (i : Nat) (y : UInt8) (k m : Nat) (h : m < R.length) : co (mixr R G i y k) m = co R m ^^^ (if i ≤ m ∧ m < i + k then Gf.gm y (co G (32 - (m - i))) else 0) := co_tab _ _ _ h
theorem mixr_zero (R G : List UInt8) (i : Nat) (y : UInt8) : mixr R G i y 0 = R := list_ext (by simp) fun m hm => by
  simp at hm
  rw [co_mixr _ _ _ _ _ _ hm, if_neg (by omega), UInt8.xor_zero]
theorem mixr_none (R G : List UInt8) (i k : Nat) : mixr R G i 0 (k + 1) = mixr R G i 0 k := list_ext (by simp) fun m hm => by
  simp at hm
  rw [co_mixr _ _ _ _ _ _ hm, co_mixr _ _ _ _ _ _ hm, Gf.zero_gm]
  simp
theorem mixr_step (R G : List UInt8) (i : Nat) (y : UInt8) (k : Nat) (h : i + k < R.length) : (mixr R G i y k).set (i + k) (co (mixr R G i y k) (i + k) ^^^ Gf.gm y (co G (32 - k))) = mixr R G i y (k + 1) := list_ext (by simp) fun m hm => by
  simp at hm
  rw [co_set, co_mixr R G i y (k + 1) m hm]
  by_cases e : i + k = m
  · subst e
    have e1 : co (mixr R G i y k) (i + k) = co R (i + k) := by rw [co_mixr R G i y k _ hm, if_neg (by omega), UInt8.xor_zero]
    rw [if_pos ⟨rfl, by simpa using hm⟩, e1, if_pos (by omega), show i + k - i = k by omega]
  · rw [if_neg (fun h => e h.1), co_mixr R G i y k m hm]
    by_cases e2 : i ≤ m ∧ m < i + k
    · rw [if_pos e2, if_pos (by omega)]
    · rw [if_neg e2, if_neg (by omega)]
theorem co_app (a b : List UInt8) (m : Nat) : co (a ++ b) m = if m < a.length then co a m else co b (m - a.length) := by
  simp only [co, List.getD_eq_getElem?_getD]
  by_cases h : m < a.length
  · rw [if_pos h, List.getElem?_append_left h]
  · rw [if_neg h, List.getElem?_append_right (by omega)]
theorem co_sumW (a b : List UInt8) (h : a.length = b.length) (m : Nat) : co (Gf.sumW a b) m = co a m ^^^ co b m := by
  by_cases hm : m < a.length
  · simp [co, Gf.sumW, List.getD_eq_getElem?_getD, List.getElem?_zipWith, hm, show m < b.length by omega]
  · rw [co_ge (by simp [Gf.sumW]; omega), co_ge (by omega), co_ge (by omega)]; rfl
theorem co_zeros (n m : Nat) : co (List.replicate n 0) m = 0 := by
  simp only [co, List.getD_eq_getElem?_getD, List.getElem?_replicate]
  split <;> rfl
theorem co_map (y : UInt8) (a : List UInt8) (m : Nat) : co (a.map (Gf.gm y)) m = Gf.gm y (co a m) := by
  by_cases hm : m < a.length
  · simp [co, List.getD_eq_getElem?_getD, hm]
  · rw [co_ge (by simpa using hm), co_ge (by omega), Gf.gm_zero]
theorem co_rev (a : List UInt8) (m : Nat) (h : m < a.length) : co a.reverse m = co a (a.length - 1 - m) := by
  simp [co, List.getD_eq_getElem?_getD, h, List.getElem?_reverse, show a.length - 1 - m < a.length by omega]
/-- the whole of it leaves the values where the polynomial is 0 -/
theorem mixr_hv (R G : List UInt8) (i : Nat) (y x : UInt8) (hG : G.length = 33) (h : i + 33 ≤ R.length) (hx : evL G x = 0) : Gf.hv x (mixr R G i y 33) = Gf.hv x R := by
  have hl : R.length = (List.replicate i 0 ++ (G.reverse.map (Gf.gm y) ++ List.replicate (R.length - i - 33) 0)).length := by simp [hG]; omega
  have e : mixr R G i y 33 = Gf.sumW R (List.replicate i 0 ++ (G.reverse.map (Gf.gm y) ++ List.replicate (R.length - i - 33) 0)) := by
    refine list_ext (by simp [Gf.sumW, hG]; omega) fun m hm => ?_
    simp at hm
    rw [co_mixr _ _ _ _ _ _ hm, co_sumW _ _ hl]
    congr 1
    rw [co_app]
    simp only [List.length_replicate]
    by_cases e1 : m < i
    · rw [if_pos e1, if_neg (by omega), co_zeros]
    · rw [if_neg e1, co_app]
      simp only [List.length_map, List.length_reverse, hG]
      by_cases e2 : m - i < 33
      · rw [if_pos e2, if_pos (by omega), co_map, co_rev _ _ (by omega), hG]
      · rw [if_neg e2, if_neg (by omega), co_zeros]
  rw [e, Gf.hv_sum _ _ _ hl, Gf.hv_app, Gf.hv_zeros, Gf.zero_gm, Gf.hv_app, Gf.hv_scale, hv_reverse, hx, Gf.gm_zero, Gf.zero_gm, Gf.hv_zeros]
  simp
/-- between the rounds -/
structure PR (d R : List UInt8) (i : Nat) : Prop where
  len : R.length = d.length + 32
  same : ∀ j, j < 32 → Gf.hv (Gf.al j) R = Gf.hv (Gf.al j) (d ++ List.replicate 32 0)
  low : ∀ m, m < i → co R m = 0
theorem PR.step {d R : List UInt8} {i : Nat} (h : PR d R i) (hi : i < d.length) : PR d (mixr R (genL 32) i (co R i) 33) (i + 1) := by
  have hl := h.len
  refine ⟨by simpa using hl, fun j hj => ?_, fun m hm => ?_⟩
  · rw [mixr_hv _ _ _ _ _ (genL_length 32) (by omega) (gen_root 32 j hj)]
    exact h.same j hj
  · rw [co_mixr _ _ _ _ _ _ (by omega)]
    by_cases e : m = i
    · subst e
      rw [if_pos (by omega), Nat.sub_self, Nat.sub_zero, gen_top 32, Gf.gm_one, UInt8.xor_self]
    · rw [if_neg (by omega), h.low m (by omega)]; rfl
theorem PR.done {d R : List UInt8} (h : PR d R d.length) : (R.drop d.length).length = 32 ∧ IsCode (d ++ R.drop d.length) := by
  have hl := h.len
  have hr : (R.drop d.length).length = 32 := by simp; omega
  refine ⟨hr, fun j hj => ?_⟩
  have e : R = List.replicate d.length 0 ++ R.drop d.length := by
    refine list_ext (by simp; omega) fun m hm => ?_
    rw [co_app]
    simp only [List.length_replicate]
    by_cases e1 : m < d.length
    · rw [if_pos e1, co_zeros, h.low m e1]
    · rw [if_neg e1]
      simp [co, List.getD_eq_getElem?_getD, show d.length + (m - d.length) = m by omega]
  have h1 := h.same j hj
  rw [e, Gf.hv_app, Gf.hv_zeros, Gf.zero_gm, UInt8.zero_xor, Gf.hv_app, Gf.hv_zeros, UInt8.xor_zero, List.length_replicate] at h1
  rw [Gf.hv_app, hr, h1, UInt8.xor_self]
theorem Buf.drop {W : World} {g cap : Nat} {ys : List UInt8} (h : Buf W g cap ys) (n : Nat) (hn : n ≤ ys.length) : RowIs W (some ⟨g, n, none⟩) (bytesV (ys.drop n)) (cap - n) :=
  ⟨by have := h.le; simp; omega, by have := h.le; omega, fun h => (by cases h), fun h0 => ⟨g, n, rfl, h.lt, fun i v hv => by
    have hi : i < (ys.drop n).length := by
      have := (List.getElem?_eq_some_iff.1 hv).1
      simpa using this
    simp at hi
    have h1 := h.cell (n + i) (by omega)
    have h2 := bytesV_get (ys.drop n) i (by simp; omega)
    rw [h2] at hv
    rw [h1, ← hv]
    simp [co, List.getD_eq_getElem?_getD]⟩⟩
theorem PR.start (d : List UInt8) : PR d (d ++ List.replicate 32 0) 0 := ⟨by simp, fun _ _ => rfl, fun m h => absurd h (by omega)⟩
def PoAt (d : List UInt8) (g cap : Nat) (w : World) (iv : Value) (wr : World) : Prop :=
  ∃ (i : Nat) (R : List UInt8), i ≤ d.length ∧ iv = .int .i64 i ∧ PR d R i ∧ Buf wr g cap R ∧ Only g w wr
def PiAt (R : List UInt8) (i : Nat) (y : UInt8) (g cap : Nat) (w : World) (kv : Value) (wr : World) : Prop :=
  ∃ k : Nat, k ≤ 33 ∧ kv = .int .i64 k ∧ Buf wr g cap (mixr R (genL 32) i y k) ∧ Only g w wr
def ParTo (d : List UInt8) (w : World) (e : Ending) (w' : World) : Prop :=
  ∃ r x, r.length = 32 ∧ IsCode (d ++ r) ∧ e = .returned (.tuple #[x, .int .i64 0]) ∧ RowV r x w' ∧ Below w.heap.size w w'
/-- the same, and its block is of bytes -/
def ParToK (d : List UInt8) (w : World) (e : Ending) (w' : World) : Prop :=
  ∃ r x, r.length = 32 ∧ IsCode (d ++ r) ∧ e = .returned (.tuple #[x, .int .i64 0]) ∧ RowV r x w' ∧ Below w.heap.size w w' ∧ ∃ g off q cur, x = .slice (some ⟨g, off, none⟩) 32 q ∧ w'.heap[g]? = some (.cells cur 5 (0, 0))
end Go.Proofs.YtgifbpjmblemhaaGreatDoor
namespace Go.Proofs.YtgifbpjmblemhaaGreatDoor
open Go.RowKit
set_option linter.unusedVariables false
set_option linter.unusedSimpArgs false
/-- a word's syndromes -/
def synL (z : List UInt8) : List UInt8 := tab (fun j => Gf.hv (Gf.al j) z) 32
@[simp] theorem synL_length (z : List UInt8) : (synL z).length = 32 := by simp [synL]
def zsyn : List UInt8 := List.replicate 32 0
theorem zero_syn (w : World) : Sem.run Tryz.prog (zeroValue 70) w = .ok (.agg (bytesV zsyn).toArray) w := by kernel_rfl
def SoAt (z : List UInt8) (w : World) (g g0 : Nat) (x i : Value) (wr : World) : Prop :=
  ∃ k : Nat, k ≤ 32 ∧ i = .int .i64 k ∧ x = .int .u8 ((Gf.al k).toNat : Int) ∧ (∃ ys : List UInt8, ys.length = 32 ∧ (∀ j, j < k → co ys j = Gf.hv (Gf.al j) z) ∧ wr.heap[g]? = some (.cells (bytesV ys).toArray 70 (0, 0))) ∧
    wr.heap[g0]? = some (.cells (bytesV zsyn).toArray 70 (0, 0)) ∧ Below w.heap.size w wr
def SiAt (z : List UInt8) (x : UInt8) (w : World) (v i : Value) (wr : World) : Prop :=
  ∃ k : Nat, k ≤ z.length ∧ i = .int .i64 k ∧ v = .int .u8 ((Gf.hv x (z.take k)).toNat : Int) ∧ wr = w
theorem one_cell (ys : List UInt8) : (bytesV ys).toArray.all (·.oneCell') = true := by
  rw [Array.all_eq_true_iff_forall_mem]
  intro x hx
  simp only [bytesV, List.mem_toArray, List.mem_map] at hx
  obtain ⟨b, _, rfl⟩ := hx
  rfl
theorem syn_info : (Tryz.prog.info? 70).map (·.size) = some 32 := by kernel_rfl
theorem syn_under : Tryz.prog.underlying 70 = some (.array 32 5) := by kernel_rfl
theorem syn_size {ys : List UInt8} (h : ys.length = 32) : (Tryz.prog.info? 70).map (·.size) = some (bytesV ys).toArray.size := by
  rw [syn_info]; simp [h]
theorem take_step (z : List UInt8) (k : Nat) (h : k < z.length) : z.take (k + 1) = z.take k ++ [co z k] := by
  rw [List.take_add_one, List.getElem?_eq_getElem h]
  simp [co, h]
theorem below_setRow {n g : Nat} {w : World} {cs : Array Value} (h : n ≤ g) : Below n w (w.setRow g cs) :=
  ⟨rfl, rfl, rfl, by simp [World.setRow], fun k hk => setRow_other w g k cs (by omega)⟩
theorem cells_set (ys : List UInt8) (i : Nat) (b : UInt8) : (bytesV ys).toArray.setIfInBounds i (.int .u8 (b.toNat : Int)) = (bytesV (ys.set i b)).toArray := by
  rw [← bytesV_set]
  simp
theorem dn_block {a b : World} (h : Kit.Dn a b) (k : Nat) : b.heap[k]? = a.heap[k]? := by
  obtain ⟨n, rfl⟩ := h
  rfl
set_option maxRecDepth 100000 in
set_option maxHeartbeats 2000000 in
theorem rsyn_of (Z : Array Value) (hZ : Z = (bytesV zsyn).toArray) (hzs : ∀ w, Sem.run Tryz.prog (zeroValue 70) w = .ok (.agg Z) w) (z : List UInt8) (o : Option Addr) (c : Nat) (w : World) (hP : RowIs w o (bytesV z) c) :
    Calls Tryz.prog 31 #[.slice o z.length c] w fun e w' => e = .returned (.agg (bytesV (synL z)).toArray) ∧ Below w.heap.size w w' := by
  have h1 := hP.le
  have h2 := hP.cap
  simp only [bytesV_length] at h1
  unfold maxLen at h2
  have HP := Lib.hid hP
  have HZ := Lib.hid hZ
  have hst := one_cell zsyn
  rw [← hZ] at hst
  have hsz := syn_size (ys := zsyn) (by simp [zsyn])
  rw [← hZ] at hsz
  have hg1 : ((w.alloc (.cells Z 70)).alloc (.cells Z 70)).heap[w.heap.size + 1]? = some (.cells Z 70 (0, 0)) := by
    have := World.alloc_heap_new (w.alloc (.cells Z 70)) (.cells Z 70)
    rwa [World.size_alloc] at this
  have hb1 : Below w.heap.size w ((w.alloc (.cells Z 70)).alloc (.cells Z 70)) := ((Below.refl _ _).alloc (Nat.le_refl _) _).alloc (by simp) _
  have HST := Lib.hid hst
  have HSZ := Lib.hid hsz
  have HG1 := Lib.hid hg1
  have HB1 := Lib.hid hb1
  clear hP hZ hst hsz hg1 hb1
  go_enter Tryz.func31, Tryz.ntmps31
  go_wp2_with (refine wpList_store_row rfl 70 (.tmp 3) (.tmp 9) rfl (w.heap.size + 1) Z rfl rfl 70 Z HG1.out HSZ.out rfl HST.out ?_)
  obtain ⟨w2, hw2⟩ : ∃ w2, ((w.alloc (.cells Z 70)).alloc (.cells Z 70)).setRow (w.heap.size + 1) Z = w2 := ⟨_, rfl⟩
  rw [hw2]
  have hg2 : w2.heap[w.heap.size + 1]? = some (.cells (bytesV zsyn).toArray 70 (0, 0)) := by
    rw [← hw2, ← HZ.out]
    exact setRow_heap _ _ _ _ _ _ HG1.out
  have hg3 : w2.heap[w.heap.size]? = some (.cells (bytesV zsyn).toArray 70 (0, 0)) := by
    rw [← hw2, setRow_other _ _ _ _ (by omega), ← HZ.out]
    have := World.alloc_heap_new w (.cells Z 70)
    rw [((Below.refl (w.alloc (.cells Z 70)).heap.size (w.alloc (.cells Z 70))).alloc (Nat.le_refl _) _).block w.heap.size (by simp)]
    exact this
  have hb2 : Below w.heap.size w w2 := by rw [← hw2]; exact HB1.out.trans (below_setRow (by omega))
  have HG2 := Lib.hid hg2
  have HG3 := Lib.hid hg3
  have HB2 := Lib.hid hb2
  have hs2 := hb2.size
  clear hw2 hg2 hg3 hb2 hzs HST HSZ HG1 HB1 HZ
  obtain ⟨g0, hg0⟩ : ∃ g0, w.heap.size = g0 := ⟨_, rfl⟩
  rw [hg0] at HG2 HG3 ⊢
  have HGE := Lib.hid hg0
  clear hg0
  go_loopw [4, 5] (fun x i wr => SoAt z w (g0 + 1) g0 x i wr) (fun _ i _ => 32 - (intOf i).toNat)
  case atStart => exact ⟨0, Nat.zero_le _, rfl, rfl, ⟨zsyn, by simp [zsyn], fun j h => absurd h (by omega), HG2.out⟩, HG3.out, HB2.out⟩
  case round =>
    rename World => W1
    obtain ⟨k, hk, rfl, rfl, ⟨ys, hys, hco, hg⟩, hg0, hb⟩ := hrel
    have HCO := Lib.hid hco
    have HG := Lib.hid hg
    have HG0 := Lib.hid hg0
    have HB := Lib.hid hb
    have HP1 := Lib.hid (HP.out.later hb)
    clear hco hg hg0 hb
    by_cases hlt : k < 32
    · have hd1 : decide ((k : Int) < 32) = true := by simpa using (by omega : (k : Int) < 32)
      have HA : Hid (∀ v : World, Calls Tryz.prog 45 #[.int .u8 ((Gf.al k).toNat : Int), .int .u8 2] v fun e w' => e = .returned (.int .u8 ((Gf.al (k + 1)).toNat : Int)) ∧ w' = v) := Lib.hid fun v => by
        have := rmul_u8 (Gf.al k) (Gf.al 1) v
        rw [Gf.gm_al] at this
        exact this
      have hrl := UInt8.toNat_lt (Gf.al k)
      have HX : Hid (∃ x, Gf.al k = x) := Lib.hid ⟨_, rfl⟩
      generalize hx : Gf.al k = x at *
      have HXE := Lib.hid hx
      clear hx HX
      go_wp2_with fail
      go_loopw [6, 16] (fun v i wr => SiAt z x W1 v i wr) (fun _ i _ => z.length - (intOf i).toNat)
      case atStart => exact ⟨0, Nat.zero_le _, rfl, rfl, rfl⟩
      case round =>
        obtain ⟨j, hj, rfl, rfl, rfl⟩ := hrel
        by_cases hjl : j < z.length
        · obtain ⟨b1, off1, rfl, hb1, hcell⟩ := HP1.out.cells (by simp; omega)
          have hc1 : wr.cell? ⟨b1, off1 + j, none⟩ = some (.int .u8 ((co z j).toNat : Int)) := hcell j _ (bytesV_get z j hjl)
          have HT : Hid (Gf.hv x (z.take (j + 1)) = Gf.gm (Gf.hv x (z.take j)) x ^^^ co z j) := Lib.hid (by rw [take_step z j hjl, Gf.hv_snoc])
          have hx := u8c (Gf.gm (Gf.hv x (z.take j)) x) (co z j)
          have MC : Hid (∀ v : World, Calls Tryz.prog 45 #[.int .u8 ((Gf.hv x (z.take j)).toNat : Int), .int .u8 (x.toNat : Int)] v fun e w' => e = .returned (.int .u8 ((Gf.gm (Gf.hv x (z.take j)) x).toNat : Int)) ∧ w' = v) := Lib.hid fun v => rmul_u8 _ _ v
          clear hcell
          generalize Gf.gm (Gf.hv x (z.take j)) x = t at *
          generalize Gf.hv x (z.take j) = s at *
          generalize co z j = y at *
          generalize t ^^^ y = q at *
          have hyl := UInt8.toNat_lt y
          have htl := UInt8.toNat_lt t
          have hsl := UInt8.toNat_lt s
          go_wp2_with fail
          refine (MC.out _).mono ?_; rintro e w' ⟨rfl, rfl⟩
          go_wp2_with fail
          go_roundw
          case rel => exact ⟨j + 1, by omega, by go_num, by rw [HT.out], rfl⟩
          case measure => simp [intOf]; omega
        · obtain rfl : j = z.length := by omega
          rw [List.take_length]
          obtain ⟨s, hs⟩ : ∃ s, Gf.hv x z = s := ⟨_, rfl⟩
          rw [hs]
          have HS := Lib.hid hs
          have hsl := UInt8.toNat_lt s
          have hce : wr.cell? ⟨g0 + 1, k, none⟩ = some (.int .u8 ((co ys k).toNat : Int)) := by
            unfold World.cell?
            rw [HG.out]
            show (bytesV ys).toArray[k]? = _
            rw [List.getElem?_toArray]
            exact bytesV_get ys k (by omega)
          have hfr : wr.frozen? ⟨g0 + 1, k, none⟩ = false := by
            unfold World.frozen?
            rw [HG.out]
            rfl
          obtain ⟨w4, hw4⟩ : ∃ w4, wr.setCell ⟨g0 + 1, k, none⟩ (.int .u8 (s.toNat : Int)) = w4 := ⟨_, rfl⟩
          have hset := setCell_eq_setRow wr (g0 + 1) k _ _ _ (.int .u8 (s.toNat : Int)) HG.out
          rw [hw4, cells_set] at hset
          have hg4 : w4.heap[g0 + 1]? = some (.cells (bytesV (ys.set k s)).toArray 70 (0, 0)) := by rw [hset]; exact setRow_heap _ _ _ _ _ _ HG.out
          have hg5 : w4.heap[g0]? = some (.cells (bytesV zsyn).toArray 70 (0, 0)) := by rw [hset, setRow_other _ _ _ _ (by omega)]; exact HG0.out
          have hb4 : Below w.heap.size w w4 := by rw [hset]; exact HB.out.trans (below_setRow (by have := HGE.out; omega))
          have HG4 := Lib.hid hg4
          have HG5 := Lib.hid hg5
          have HB4 := Lib.hid hb4
          have HW4 := Lib.hid hw4
          clear hs hw4 hset hg4 hg5 hb4
          have hk0 : (0 : Int) ≤ (k : Int) := by omega
          have hk1 : (k : Int) < 32 := by omega
          go_wp2_with fail
          rw [HW4.out]
          refine (HA.out _).mono ?_; rintro e w' ⟨rfl, rfl⟩
          go_wp2_with fail
          go_roundw
          case rel =>
            refine ⟨k + 1, by omega, by go_num, rfl, ⟨ys.set k s, by simp [hys], fun j hj => ?_, HG4.out⟩, HG5.out, HB4.out⟩
            rw [co_set]
            by_cases e : k = j
            · subst e
              rw [if_pos ⟨rfl, by omega⟩, ← HS.out, HXE.out]
            · rw [if_neg (fun h => e h.1)]
              exact HCO.out j (by omega)
          case measure => simp [intOf]; omega
    · obtain rfl : k = 32 := by omega
      have hye : ys = synL z := list_ext (by simp [hys]) fun j hj => by
        rw [HCO.out j (by omega)]
        exact (co_tab (fun j => Gf.hv (Gf.al j) z) 32 j (by omega)).symm
      subst hye
      clear HCO
      have hsz := syn_size (ys := synL z) hys
      have hst := one_cell (synL z)
      have HSZ := Lib.hid hsz
      have HST := Lib.hid hst
      have HOL : Hid ((bytesV zsyn).toArray.size = (bytesV (synL z)).toArray.size) := Lib.hid (by simp [zsyn])
      obtain ⟨C, hC⟩ : ∃ C, (bytesV (synL z)).toArray = C := ⟨_, rfl⟩
      rw [hC] at HG HSZ HST HOL
      have HCE := Lib.hid hC
      have HGW : Hid ((W1.setRow g0 C).heap[g0]? = some (.cells C 70 (0, 0))) := Lib.hid (setRow_heap _ _ _ _ _ _ HG0.out)
      have HBW : Hid (Below w.heap.size w (W1.setRow g0 C)) := Lib.hid (HB.out.trans (below_setRow (by have := HGE.out; omega)))
      clear hsz hst hC
      go_wp2_with (first | refine wpList_load_row rfl 70 (.tmp 3) rfl (g0 + 1) rfl 70 C (0, 0) _ HG.out syn_under rfl HSZ.out ?_ | refine wpList_store_row rfl 70 (.tmp 2) (.tmp 31) rfl g0 C rfl rfl 70 (bytesV zsyn).toArray HG0.out HSZ.out HOL.out HST.out ?_)
      refine bodyPost_ret (v := .agg C) (results_cell_row rfl _ _ g0 70 C (0, 0) _ rfl HGW.out syn_under rfl HSZ.out) rfl ?_
      exact ⟨by rw [HCE.out], HBW.out⟩
theorem rsyn_any (z : List UInt8) (o : Option Addr) (c : Nat) (w : World) (hP : RowIs w o (bytesV z) c) :
    Calls Tryz.prog 31 #[.slice o z.length c] w fun e w' => e = .returned (.agg (bytesV (synL z)).toArray) ∧ Below w.heap.size w w' :=
  rsyn_of _ rfl zero_syn z o c w hP
end Go.Proofs.YtgifbpjmblemhaaGreatDoor
