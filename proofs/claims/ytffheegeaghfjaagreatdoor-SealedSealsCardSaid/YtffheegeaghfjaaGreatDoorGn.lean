/- Gn -/
import Derived.Test.YtffheegeaghfjaaGreatDoorMu
import Derived.Deep.DeepAppendWide
import Derived.Laws.AppendOwnNone
import Derived.Deep.Onto
import Derived.Lib.AppendZeros
import Derived.Lib.AppendStr
set_option linter.unusedVariables false
set_option linter.unusedSimpArgs false
set_option maxRecDepth 100000
set_option maxHeartbeats 8000000
namespace Go.Proofs.YtffheegeaghfjaaGreatDoor
open Go.RowKit
def RowV (z : List UInt8) (x : Value) (v : World) : Prop := ∃ o c, x = .slice o z.length c /\ RowIs v o (bytesV z) c
theorem RowV.later {z : List UInt8} {x : Value} {v v' : World} (h : RowV z x v) (hb : Below v.heap.size v v') : RowV z x v' := by
 obtain ⟨o, c, e, h⟩ := h
 exact ⟨o, c, e, h.later hb⟩
def Rows (z : List UInt8) (v : World) (e : Ending) (v' : World) : Prop := ∃ x, e = .returned x /\ RowV z x v' /\ Below v.heap.size v v'
def CellV (y : UInt8) (x : Value) (v : World) : Prop := ∃ a, x = .pointer (some a) /\ v.cell? a = some (.int .u8 (y.toNat : Int)) /\ a.block < v.heap.size
theorem CellV.later {y : UInt8} {x : Value} {v v' : World} (h : CellV y x v) (hb : Below v.heap.size v v') : CellV y x v' := by
 obtain ⟨a, e, h, hl⟩ := h
 refine ⟨a, e, ?_, Nat.lt_of_lt_of_le hl hb.size⟩
 unfold World.cell? at *
 rw [hb.block _ hl]
 exact h
theorem RowV.cellAt {z : List UInt8} {x : Value} {v : World} (h : RowV z x v) (i : Nat) (hi : i < z.length) : ∃ a c, x = .slice (some a) z.length c /\ CellV (co z i) (.pointer (some (a.add i))) v := by
 obtain ⟨o, c, rfl, h⟩ := h
 have h2 := h.adds
 obtain ⟨b, off, rfl, hb, hc⟩ := h.cells (by simp; omega)
 exact ⟨_, _, rfl, _, rfl, h2 _ rfl i _ (bytesV_get z i hi), by unfold Addr.add; split <;> exact hb⟩
theorem own_lt {W : World} {n : Nat} {v : Value} {xs : List Value} {m : Nat} (h : W.ownsRow n 5 1 v m xs) : ∀ k, v.ownBlock = some k -> n <= k := fun k e => (World.ownsRow.lt h k e).1
theorem append_row {ops : Array Oper} {rest : List Oper} {o : Oper} {a : Act} {Q : Exit -> Act -> World -> Prop} {w : World} (hgd : o.guard = none) (s x : Operand)
    (ho : o.op = .call { callee := .builtin .append, args := #[s, x], argTypes := #[22, 22] })
    (base : Nat) (v : Value) (n : Nat) (z : List UInt8) (hs : a.eval s = v) (hown : w.ownsRow base 5 1 v n (bytesV z))
    (ad : Option Addr) (m c : Nat) (y : List UInt8) (hx : a.eval x = .slice ad m c) (hm : m = y.length) (hrow : RowIs w ad (bytesV y) c) (hl : n + m <= 10000000) (hbase : base <= w.heap.size)
    (h : ∀ v' w', w'.ownsRow base 5 1 v' (n + m) (bytesV (z ++ y)) -> w.grownBy w' v.ownBlock -> wpList Tryz.prog ops Q rest (a.put o.dst v') w') : wpList Tryz.prog ops Q (o :: rest) a w := by
 obtain ⟨i0, hi, hz0, hz1, hz2⟩ := info_parts info_u8
 have e : bytesV (z ++ y) = bytesV z ++ bytesV y := by simp [bytesV]
 rw [e] at h
 subst hm
 cases ad with
 | none =>
  have h0 := hrow.nil rfl
  have hle := hrow.le
  simp only [bytesV_length] at hle
  obtain rfl : y = [] := List.eq_nil_of_length_eq_zero (by omega)
  subst h0
  refine wpList_append_own_none hgd s x 22 ho base 5 i0 1 Tryz.underlying22 hi v n (bytesV z) hs hown hx ?_
  exact h v w (by simpa [bytesV] using hown) ⟨rfl, rfl, rfl, Nat.le_refl _, fun _ _ _ => rfl⟩
 | some ad =>
  refine wpList_append_own_wide w hgd s x 22 ho base 5 i0 (.int .u8 0) 1 1 Tryz.underlying22 hi hz0 hz1 hz2 rfl (by decide) v n (bytesV z) hs hown ad y.length c (bytesV y) hx (by simp) (hrow.adds ad rfl) (bytesV_one y) (by unfold maxLen; omega) (by omega) hbase ?_
  intro v' w' h1 h2 _
  exact h v' w' h1 h2
theorem own_below {w0 w w' : World} {n : Nat} {v : Value} {xs : List Value} {m : Nat} (hb : Below w0.heap.size w0 w) (h : w.ownsRow w0.heap.size 5 1 v m xs) (hg : w.grownBy w' v.ownBlock) : Below w0.heap.size w0 w' :=
 hb.grown hg hb.size (fun k e => own_lt h k e)
theorem trim_own (p : List UInt8) (o : Option Addr) (c : Nat) (w : World) (hP : RowIs w o (bytesV p) c) (hl : p.length <= 1000000) :
    Calls Tryz.prog 170 #[.slice o p.length c] w fun e w' => ∃ x, e = .returned x /\ w'.ownsRow w.heap.size 5 1 x (tr p).length (bytesV (tr p)) /\ Below w.heap.size w w' := by
 have HC := Lh (cut_any o p c w hP)
 have htl := tr_le p
 clear hP
 go_enter Tryz.func170, Tryz.ntmps170
 go_wp2_with fail
 refine HC.out.mono ?_; rintro e w1 ⟨rfl, hb, hr⟩
 have HB := Lh hb
 have HR := Lh hr
 have HOWN : Hid (w1.ownsRow w1.heap.size 5 1 (.slice none 0 0) 0 (bytesV [])) := Lh (World.ownsRow_nil _ _ _ _)
 clear hb hr HC
 go_wp2_with (at_builtin; refine append_row rfl (.const (.slice none 0 0)) (.tmp 4) rfl w1.heap.size _ 0 [] rfl HOWN.out o (tr p).length c (tr p) rfl rfl HR.out (by omega) (Nat.le_refl _) ?_)
 intro v' w' hv hg
 have hb2 := own_below (n := 0) (Below.refl _ _) HOWN.out hg
 have HV := Lh (hv.mono HB.out.size)
 have HB2 := Lh (Ks HB.out hb2)
 clear hv hg hb2
 go_wp2
 go_ret
 exact ⟨v', rfl, by simpa using HV.out, HB2.out⟩
def zstr (n : Nat) : ByteArray := ⟨Array.replicate n 0⟩
theorem zstr_size (n : Nat) : (zstr n).size = n := by simp [zstr, ByteArray.size]
theorem zero_cells (n : Nat) : Builtin.zeroCells #[.int .u8 0] n = (Lib.strCells (zstr n)).toArray := by
 apply Array.ext
 ·simp [Builtin.zeroCells, Lib.strCells, zstr]
 ·intro i h1 h2
  simp [Builtin.zeroCells, Lib.strCells, zstr, Nat.mod_one]
theorem zeros_as_string {P : Program} (w : World) (t tn u ty e : TypeId) (i : TypeInfo) (ht : P.underlying t = some (.slice e)) (htn : P.underlying tn = some (.int .i64)) (hu : P.underlying u = some .string) (hi : P.info? e = some i) (hz : i.zero = some (.int .u8 0))
    (hsize : i.size = 1) (hby : i.bytes = 1) (b : Option Addr) (len cap n : Nat) (h0 : 0 < n) (hn : n <= 1000000) (hl : len <= 10000000) :
    (Builtin.append_ #[t, tn] ty #[.slice b len cap, .int .i64 n]).run P w = (Builtin.append_ #[t, u] ty #[.slice b len cap, .string (zstr n)]).run P w := by
 have hw : IntKind.i64.wrap (n : Int) = n := by rw [IntKind.wrap_i64]; omega
 have hneg : ¬ ((n : Int) < 0) := by omega
 have h48i : ¬ (281474976710656 < (n : Int)) := by omega
 have hne : n ≠ 0 := by omega
 have h63 : ¬ (9223372036854775807 < (len : Int) + (n : Int)) := by omega
 have hzs := zstr_size n
 have hf : ∀ v : World, Sem.run P (Builtin.firstCells 1 n (.string (zstr n))) v = .ok (Lib.strCells (zstr n)).toArray v := fun v => by
  have := Lib.run_firstCells_string (P := P) v 1 (zstr n)
  rwa [hzs] at this
 by_cases hr : len + n <= cap
 ·simp [Builtin.append_, run_underlying ht, run_underlying htn, run_underlying hu, sizeOf, typeInfo, zeroValue, hi, hz, hsize, hby, asInt, asIntOf, hw, hneg, h48i, hne, Builtin.lenOf, hzs, hr, Value.cells, zero_cells, hf]
 ·have hns : ¬ (281474976710656 < Builtin.nextslicecap (len + n) cap) := by
   have := growslice_fits (need := len + n) (old := cap) (bytes := 1) (by omega) (by omega)
   omega
  simp [Builtin.append_, run_underlying ht, run_underlying htn, run_underlying hu, sizeOf, typeInfo, zeroValue, hi, hz, hsize, hby, asInt, asIntOf, hw, hneg, h48i, hne, Builtin.lenOf, hzs, hr, hns, h63, Value.cells, zero_cells, hf]
theorem append_zeros {ops : Array Oper} {rest : List Oper} {o : Oper} {a : Act} {Q : Exit -> Act -> World -> Prop} {w : World} (hgd : o.guard = none) (s x : Operand)
    (ho : o.op = .call { callee := .builtin .append, args := #[s, x], argTypes := #[22, 3] })
    (base : Nat) (v : Value) (m : Nat) (z : List UInt8) (hs : a.eval s = v) (hown : w.ownsRow base 5 1 v m (bytesV z)) (n : Nat) (h0 : 0 < n) (hx : a.eval x = .int .i64 n) (hn : n <= 1000000) (hl : m <= 10000000) (hbase : base <= w.heap.size)
    (h : ∀ v' w', w'.ownsRow base 5 1 v' (m + n) (bytesV (z ++ List.replicate n 0)) -> w.grownBy w' v.ownBlock -> wpList Tryz.prog ops Q rest (a.put o.dst v') w') : wpList Tryz.prog ops Q (o :: rest) a w := by
 obtain ⟨i0, hi, hz0, hz1, hz2⟩ := info_parts info_u8
 have e : bytesV (z ++ List.replicate n 0) = bytesV z ++ Lib.strCells (zstr n) := by
  simp [bytesV, Lib.strCells, zstr]
 rw [e] at h
 obtain ⟨v', w', hr, h2, h3, h4⟩ := Lib.run_append_own_string (P := Tryz.prog) w base 22 9 o.type 5 i0 Tryz.underlying22 Tryz.underlying9 hi hz0 hz1 hz2 v m (bytesV z) hown (zstr n) (by rw [zstr_size]; unfold maxLen; omega) (by rw [zstr_size]; omega) hbase
 rw [zstr_size] at h2
 obtain ⟨b, l, cap, rfl⟩ : ∃ b l cap, v = .slice b l cap := by
  rcases hown.2 with ⟨rfl, _⟩ | ⟨g, cap, cur, rfl, _⟩
  ·exact ⟨_, _, _, rfl⟩
  ·exact ⟨_, _, _, rfl⟩
 have hlm : l = m := by
  rcases hown.2 with ⟨e1, e2⟩ | ⟨g, cap2, cur, e1, _⟩
  ·cases e1; exact e2.symm
  ·cases e1; rfl
 subst hlm
 refine Lib.wpList_append_run w hgd s x _ _ ho _ _ hs hx v' w' ?_ (h v' w' h2 h3)
 rw [zeros_as_string w 22 3 9 o.type 5 i0 Tryz.underlying22 Tryz.underlying3 Tryz.underlying9 hi hz0 hz1 hz2 b l cap n h0 hn hl]
 exact hr
def cf (p q : List UInt8) (k : Nat) : UInt8 := Gf.sm (fun i => Gf.gm (co p i) (co q (k - i))) (k + 1)
def nx (G : List UInt8) (r : UInt8) : List UInt8 := tab (fun m => Gf.gm (co G m) r ^^^ (if m = 0 then 0 else co G (m - 1))) (G.length + 1)
def genL : Nat -> List UInt8
 | 0 => [1]
 | k + 1 => nx (genL k) (Gf.al k)
theorem genL_length (k : Nat) : (genL k).length = k + 1 := by
 induction k with
 | zero => rfl
 | succ k ih => simp [genL, nx, ih]
theorem co_nx (G : List UInt8) (r : UInt8) (m : Nat) : co (nx G r) m = Gf.gm (co G m) r ^^^ (if m = 0 then 0 else co G (m - 1)) :=
 co_tab' _ _ _ fun j hj => by
  rw [co_ge (by omega), Gf.zero_gm, if_neg (by omega), co_ge (by omega)]; rfl
theorem ev_nx (G : List UInt8) (r x : UInt8) : evL (nx G r) x = Gf.gm (evL G x) (r ^^^ x) := by
 have h : ∀ m, co (nx G r) m = Gf.gm (co G m) r ^^^ Gf.ps 1 (co G) m := fun m => by
  rw [co_nx]
  unfold Gf.ps
  congr 1
  by_cases e : m = 0
  ·rw [if_pos e, if_neg (by omega)]
  ·rw [if_neg e, if_pos (by omega)]
 have hl : (nx G r).length = G.length + 1 := by simp [nx]
 unfold evL
 rw [hl, Gf.ev_congr (fun i _ => h i), Gf.ev_xor]
 rw [Nat.add_comm G.length 1, Gf.ev_ps, Gf.gm_xor, Gf.ev_congr (g := fun i => Gf.gm r (co G i)) (fun i _ => Gf.gm_comm _ _), Gf.ev_gm]
 rw [Gf.ev_more (n := G.length) (m := 1 + G.length) (by omega) (fun i hi => co_ge hi), Gf.gm_comm r, show Gf.px x 1 = x by show Gf.gm 1 x = x; exact Gf.one_gm x, Gf.gm_comm x]
theorem gen_root (k j : Nat) (h : j < k) : evL (genL k) (Gf.al j) = 0 := by
 induction k with
 | zero => omega
 | succ k ih =>
  rw [genL, ev_nx]
  by_cases e : j = k
  ·rw [e, UInt8.xor_self, Gf.gm_zero]
  ·rw [ih (by omega), Gf.zero_gm]
theorem gen_top (k : Nat) : co (genL k) k = 1 := by
 induction k with
 | zero => rfl
 | succ k ih => rw [genL, co_nx, co_ge (by rw [genL_length]; omega), Gf.zero_gm, if_neg (by omega), Nat.add_sub_cancel, ih]; rfl
def nxAt (G : List UInt8) (r : UInt8) (i : Nat) : List UInt8 := tab (fun m => (if m < i then Gf.gm (co G m) r else 0) ^^^ (if 1 <= m /\ m <= i then co G (m - 1) else 0)) (G.length + 1)
@[simp] theorem nxAt_length (G : List UInt8) (r : UInt8) (i : Nat) : (nxAt G r i).length = G.length + 1 := by simp [nxAt]
def mixr (R G : List UInt8) (i : Nat) (y : UInt8) (k : Nat) : List UInt8 := tab (fun m => co R m ^^^ (if i <= m /\ m < i + k then Gf.gm y (co G (32 - (m - i))) else 0)) R.length
@[simp] theorem mixr_length (R G : List UInt8) (i : Nat) (y : UInt8) (k : Nat) : (mixr R G i y k).length = R.length := by simp [mixr]
theorem co_mixr (R G : List UInt8) (i : Nat) (y : UInt8) (k m : Nat) (h : m < R.length) : co (mixr R G i y k) m = co R m ^^^ (if i <= m /\ m < i + k then Gf.gm y (co G (32 - (m - i))) else 0) := co_tab _ _ _ h
theorem co_app (a b : List UInt8) (m : Nat) : co (a ++ b) m = if m < a.length then co a m else co b (m - a.length) := by
 simp only [co, List.getD_eq_getElem?_getD]
 by_cases h : m < a.length
 ·rw [if_pos h, List.getElem?_append_left h]
 ·rw [if_neg h, List.getElem?_append_right (by omega)]
theorem co_sumW (a b : List UInt8) (h : a.length = b.length) (m : Nat) : co (Gf.sumW a b) m = co a m ^^^ co b m := by
 by_cases hm : m < a.length
 ·simp [co, Gf.sumW, List.getD_eq_getElem?_getD, List.getElem?_zipWith, hm, show m < b.length by omega]
 ·rw [co_ge (by simp [Gf.sumW]; omega), co_ge (by omega), co_ge (by omega)]; rfl
theorem co_zeros (n m : Nat) : co (List.replicate n 0) m = 0 := by
 simp only [co, List.getD_eq_getElem?_getD, List.getElem?_replicate]
 split <;> rfl
theorem co_map (y : UInt8) (a : List UInt8) (m : Nat) : co (a.map (Gf.gm y)) m = Gf.gm y (co a m) := by
 by_cases hm : m < a.length
 ·simp [co, List.getD_eq_getElem?_getD, hm]
 ·rw [co_ge (by simpa using hm), co_ge (by omega), Gf.gm_zero]
theorem co_rev (a : List UInt8) (m : Nat) (h : m < a.length) : co a.reverse m = co a (a.length - 1 - m) := by
 simp [co, List.getD_eq_getElem?_getD, h, List.getElem?_reverse, show a.length - 1 - m < a.length by omega]
theorem mixr_hv (R G : List UInt8) (i : Nat) (y x : UInt8) (hG : G.length = 33) (h : i + 33 <= R.length) (hx : evL G x = 0) : Gf.hv x (mixr R G i y 33) = Gf.hv x R := by
 have hl : R.length = (List.replicate i 0 ++ (G.reverse.map (Gf.gm y) ++ List.replicate (R.length - i - 33) 0)).length := by simp [hG]; omega
 have e : mixr R G i y 33 = Gf.sumW R (List.replicate i 0 ++ (G.reverse.map (Gf.gm y) ++ List.replicate (R.length - i - 33) 0)) := by
  refine list_ext (by simp [Gf.sumW, hG]; omega) fun m hm => ?_
  simp at hm
  rw [co_mixr _ _ _ _ _ _ hm, co_sumW _ _ hl]
  congr 1
  rw [co_app]
  simp only [List.length_replicate]
  by_cases e1 : m < i
  ·rw [if_pos e1, if_neg (by omega), co_zeros]
  ·rw [if_neg e1, co_app]
   simp only [List.length_map, List.length_reverse, hG]
   by_cases e2 : m - i < 33
   ·rw [if_pos e2, if_pos (by omega), co_map, co_rev _ _ (by omega), hG]
   ·rw [if_neg e2, if_neg (by omega), co_zeros]
 rw [e, Gf.hv_sum _ _ _ hl, Gf.hv_app, Gf.hv_zeros, Gf.zero_gm, Gf.hv_app, Gf.hv_scale, hv_reverse, hx, Gf.gm_zero, Gf.zero_gm, Gf.hv_zeros]
 simp
structure PR (d R : List UInt8) (i : Nat) : Prop where
 len : R.length = d.length + 32
 same : ∀ j, j < 32 -> Gf.hv (Gf.al j) R = Gf.hv (Gf.al j) (d ++ List.replicate 32 0)
 low : ∀ m, m < i -> co R m = 0
theorem PR.step {d R : List UInt8} {i : Nat} (h : PR d R i) (hi : i < d.length) : PR d (mixr R (genL 32) i (co R i) 33) (i + 1) := by
 have hl := h.len
 refine ⟨by simpa using hl, fun j hj => ?_, fun m hm => ?_⟩
 ·rw [mixr_hv _ _ _ _ _ (genL_length 32) (by omega) (gen_root 32 j hj)]
  exact h.same j hj
 ·rw [co_mixr _ _ _ _ _ _ (by omega)]
  by_cases e : m = i
  ·subst e
   rw [if_pos (by omega), Nat.sub_self, Nat.sub_zero, gen_top 32, Gf.gm_one, UInt8.xor_self]
  ·rw [if_neg (by omega), h.low m (by omega)]; rfl
theorem PR.done {d R : List UInt8} (h : PR d R d.length) : (R.drop d.length).length = 32 /\ IsCode (d ++ R.drop d.length) := by
 have hl := h.len
 have hr : (R.drop d.length).length = 32 := by simp; omega
 refine ⟨hr, fun j hj => ?_⟩
 have e : R = List.replicate d.length 0 ++ R.drop d.length := by
  refine list_ext (by simp; omega) fun m hm => ?_
  rw [co_app]
  simp only [List.length_replicate]
  by_cases e1 : m < d.length
  ·rw [if_pos e1, co_zeros, h.low m e1]
  ·rw [if_neg e1]
   simp [co, List.getD_eq_getElem?_getD, show d.length + (m - d.length) = m by omega]
 have h1 := h.same j hj
 rw [e, Gf.hv_app, Gf.hv_zeros, Gf.zero_gm, UInt8.zero_xor, Gf.hv_app, Gf.hv_zeros, UInt8.xor_zero, List.length_replicate] at h1
 rw [Gf.hv_app, hr, h1, UInt8.xor_self]
theorem Buf.drop {W : World} {g cap : Nat} {ys : List UInt8} (h : Buf W g cap ys) (n : Nat) (hn : n <= ys.length) : RowIs W (some ⟨g, n, none⟩) (bytesV (ys.drop n)) (cap - n) :=
 ⟨by have := h.le; simp; omega, by have := h.le; omega, fun h => (by cases h), fun h0 => ⟨g, n, rfl, h.lt, fun i v hv => by
  have hi : i < (ys.drop n).length := by
   have := (List.getElem?_eq_some_iff.1 hv).1
   simpa using this
  simp at hi
  have h1 := h.cell (n + i) (by omega)
  have h2 := bytesV_get (ys.drop n) i (by simp; omega)
  rw [h2] at hv
  rw [h1, <- hv]
  simp [co, List.getD_eq_getElem?_getD]⟩⟩
theorem PR.start (d : List UInt8) : PR d (d ++ List.replicate 32 0) 0 := ⟨by simp, fun _ _ => rfl, fun m h => absurd h (by omega)⟩
def synL (z : List UInt8) : List UInt8 := tab (fun j => Gf.hv (Gf.al j) z) 32
@[simp] theorem synL_length (z : List UInt8) : (synL z).length = 32 := by simp [synL]
def zsyn : List UInt8 := List.replicate 32 0
theorem zero_syn (w : World) : Sem.run Tryz.prog (zeroValue 31) w = .ok (.agg (bytesV zsyn).toArray) w := by kernel_rfl
theorem below_setRow {n g : Nat} {w : World} {cs : Array Value} (h : n <= g) : Below n w (w.setRow g cs) :=
 ⟨rfl, rfl, rfl, by simp [World.setRow], fun k hk => setRow_other w g k cs (by omega)⟩
theorem cells_set (ys : List UInt8) (i : Nat) (b : UInt8) : (bytesV ys).toArray.setIfInBounds i (.int .u8 (b.toNat : Int)) = (bytesV (ys.set i b)).toArray := by
 rw [<- bytesV_set]
 simp
end Go.Proofs.YtffheegeaghfjaaGreatDoor
namespace Go.Proofs.YtffheegeaghfjaaGreatDoor
def nbk (s : Nat) : Nat := if s = 0 then 1 else (s + 7) / 8
theorem nbk_pos (s : Nat) : 1 <= nbk s := by unfold nbk; split <;> omega
theorem nbk_le (s : Nat) : s <= 8 * nbk s := by unfold nbk; split <;> omega
theorem nbk_bd (s : Nat) (h : s <= 2000) : nbk s <= 250 := by unfold nbk; split <;> omega
def padL (f : List UInt8) : List UInt8 := f ++ List.replicate (8 * nbk f.length - f.length) 0
@[simp] theorem padL_length (f : List UInt8) : (padL f).length = 8 * nbk f.length := by
 have := nbk_le f.length
 simp [padL]; omega
def shpN (n : Nat) : List Nat := if 223 < n then [223, n - 223] else [n]
def shp (s : Nat) : List Nat := shpN (nbk s)
def sumN (l : List Nat) : Nat := l.foldr (· + ·) 0
@[simp] theorem sumN_nil : sumN [] = 0 := rfl
@[simp] theorem sumN_cons (a : Nat) (l : List Nat) : sumN (a :: l) = a + sumN l := rfl
theorem sumN_app (a b : List Nat) : sumN (a ++ b) = sumN a + sumN b := by
 induction a with
 | nil => simp
 | cons x a ih => simp [ih]; omega
theorem shpN_sum (n : Nat) : sumN (shpN n) = n := by unfold shpN; split <;> simp <;> omega
theorem shpN_le (n : Nat) : 1 <= (shpN n).length /\ (shpN n).length <= 2 := by unfold shpN; split <;> simp
theorem shpN_mem (n : Nat) (h1 : 1 <= n) (h2 : n <= 250) : ∀ k ∈ shpN n, 1 <= k /\ k <= 223 := by
 unfold shpN
 intro k hk
 split at hk
 ·simp at hk
  omega
 ·simp at hk
  omega
def atG (l : List Nat) (g : Nat) : Nat := sumN (l.take g) + 32 * g
def szG (l : List Nat) (g : Nat) : Nat := l.getD g 0
def parR (d : List UInt8) : Nat -> List UInt8
 | 0 => d ++ List.replicate 32 0
 | i + 1 => mixr (parR d i) (genL 32) i (co (parR d i) i) 33
theorem parR_pr (d : List UInt8) (i : Nat) (h : i <= d.length) : PR d (parR d i) i := by
 induction i with
 | zero => exact PR.start d
 | succ i ih => exact (ih (by omega)).step (by omega)
def parL (d : List UInt8) : List UInt8 := (parR d d.length).drop d.length
theorem parL_spec (d : List UInt8) : (parL d).length = 32 /\ IsCode (d ++ parL d) := (parR_pr d d.length (Nat.le_refl _)).done
@[simp] theorem parL_length (d : List UInt8) : (parL d).length = 32 := (parL_spec d).1
theorem parL_only {d r : List UInt8} (h : IsCode (d ++ r)) (hr : r.length = 32) (hn : d.length <= 223) : r = parL d := h.only (parL_spec d).2 hr (parL_length d) hn
def blk (p : List UInt8) (i : Nat) : List UInt8 := tab (fun j => co p (8 * i + j)) 8
@[simp] theorem blk_length (p : List UInt8) (i : Nat) : (blk p i).length = 8 := by simp [blk]
theorem co_blk (p : List UInt8) (i j : Nat) (h : j < 8) : co (blk p i) j = co p (8 * i + j) := co_tab _ _ _ h
def bi (bs : List (List UInt8)) (i : Nat) : List UInt8 := bs.getD i []
theorem bi_app (a b : List (List UInt8)) (i : Nat) : bi (a ++ b) i = if i < a.length then bi a i else bi b (i - a.length) := by
 unfold bi
 by_cases h : i < a.length
 ·rw [if_pos h, List.getD_eq_getElem?_getD, List.getD_eq_getElem?_getD, List.getElem?_append_left h]
 ·rw [if_neg h, List.getD_eq_getElem?_getD, List.getD_eq_getElem?_getD, List.getElem?_append_right (by omega)]
theorem bi_map (f : Nat -> List UInt8) (n i : Nat) (h : i < n) : bi ((List.range n).map f) i = f i := by
 simp [bi, List.getD_eq_getElem?_getD, h]
theorem bi_take (a : List (List UInt8)) (n i : Nat) (h : i < n) : bi (a.take n) i = bi a i := by
 unfold bi
 rw [List.getD_eq_getElem?_getD, List.getD_eq_getElem?_getD, List.getElem?_take_of_lt h]
theorem bi_drop (a : List (List UInt8)) (n i : Nat) : bi (a.drop n) i = bi a (n + i) := by
 simp [bi, List.getD_eq_getElem?_getD]
theorem bs_ext {a b : List (List UInt8)} (hl : a.length = b.length) (h : ∀ i, i < a.length -> bi a i = bi b i) : a = b := by
 apply List.ext_getElem hl
 intro i h1 h2
 have := h i h1
 simpa [bi, List.getD_eq_getElem?_getD, h1, h2] using this
def colV (b : List UInt8) (j : Nat) : UInt8 := if b.length = 8 then co b j else 0
def colB (bs : List (List UInt8)) (j : Nat) : List UInt8 := bs.map fun b => colV b j
@[simp] theorem colB_length (bs : List (List UInt8)) (j : Nat) : (colB bs j).length = bs.length := by simp [colB]
theorem co_colB (bs : List (List UInt8)) (j i : Nat) (h : i < bs.length) : co (colB bs j) i = colV (bi bs i) j := by
 simp [co, colB, bi, List.getD_eq_getElem?_getD, h]
def dat (p : List UInt8) (a k : Nat) : List (List UInt8) := (List.range k).map fun i => blk p (a + i)
@[simp] theorem dat_length (p : List UInt8) (a k : Nat) : (dat p a k).length = k := by simp [dat]
theorem bi_dat (p : List UInt8) (a k i : Nat) (h : i < k) : bi (dat p a k) i = blk p (a + i) := bi_map _ _ _ h
theorem dat_succ (p : List UInt8) (a k : Nat) : dat p a (k + 1) = dat p a k ++ [blk p (a + k)] := by simp [dat, List.range_succ]
theorem dat_app (p : List UInt8) (a k m : Nat) : dat p a (k + m) = dat p a k ++ dat p (a + k) m := by
 refine bs_ext (by simp) fun i hi => ?_
 rw [dat_length] at hi
 rw [bi_dat _ _ _ _ hi, bi_app, dat_length]
 split
 ·rename_i h
  rw [bi_dat _ _ _ _ h]
 ·rename_i h
  rw [bi_dat _ _ _ _ (by omega)]
  congr 1; omega
def parB (D : List (List UInt8)) : List (List UInt8) := (List.range 32).map fun i => tab (fun j => co (parL (colB D j)) i) 8
@[simp] theorem parB_length (D : List (List UInt8)) : (parB D).length = 32 := by simp [parB]
theorem bi_parB (D : List (List UInt8)) (i : Nat) (h : i < 32) : bi (parB D) i = tab (fun j => co (parL (colB D j)) i) 8 := bi_map _ _ _ h
def grpB (p : List UInt8) (a k : Nat) : List (List UInt8) := dat p a k ++ parB (dat p a k)
@[simp] theorem grpB_length (p : List UInt8) (a k : Nat) : (grpB p a k).length = k + 32 := by simp [grpB]
def grps (p : List UInt8) : Nat -> List Nat -> List (List UInt8)
 | _, [] => []
 | a, k :: t => grpB p a k ++ grps p (a + k) t
theorem grps_app (p : List UInt8) (l m : List Nat) (a : Nat) : grps p a (l ++ m) = grps p a l ++ grps p (a + sumN l) m := by
 induction l generalizing a with
 | nil => simp [grps]
 | cons k l ih => simp [grps, ih, List.append_assoc, Nat.add_assoc]
theorem grps_snoc (p : List UInt8) (l : List Nat) (k a : Nat) : grps p a (l ++ [k]) = grps p a l ++ grpB p (a + sumN l) k := by
 rw [grps_app]; simp [grps]
theorem grps_length (p : List UInt8) (l : List Nat) (a : Nat) : (grps p a l).length = sumN l + 32 * l.length := by
 induction l generalizing a with
 | nil => simp [grps]
 | cons k l ih => simp [grps, ih]; omega
def allB (f : List UInt8) : List (List UInt8) := grps (padL f) 0 (shp f.length)
def totN (n : Nat) : Nat := n + 32 * (shpN n).length
theorem allB_length (f : List UInt8) : (allB f).length = totN (nbk f.length) := by
 unfold allB totN shp
 rw [grps_length, shpN_sum]
theorem totN_bd (n : Nat) (h : n <= 250) : totN n <= 314 := by
 have := shpN_le n
 unfold totN; omega
theorem grpB_eight (p : List UInt8) (a k : Nat) : ∀ b ∈ grpB p a k, b.length = 8 := by
 intro b hb
 rcases List.mem_append.1 hb with h | h
 ·obtain ⟨i, _, rfl⟩ := List.mem_map.1 h
  exact blk_length _ _
 ·obtain ⟨i, _, rfl⟩ := List.mem_map.1 h
  exact tab_length _ _
theorem grps_eight (p : List UInt8) (l : List Nat) (a : Nat) : ∀ b ∈ grps p a l, b.length = 8 := by
 induction l generalizing a with
 | nil => intro b hb; cases hb
 | cons k l ih =>
  intro b hb
  rcases List.mem_append.1 hb with h | h
  ·exact grpB_eight _ _ _ b h
  ·exact ih _ b h
end Go.Proofs.YtffheegeaghfjaaGreatDoor
namespace Go.Proofs.YtffheegeaghfjaaGreatDoor
open Go.RowKit
theorem info_rowB : (Tryz.prog.info? 22).map (fun i => (i.zero, i.size, i.bytes)) = some (some (.slice none 0 0), 1, 24) := by kernel_rfl
theorem RowIs.part {W : World} {b off : Nat} {vs : List Value} {c : Nat} (h : RowIs W (some ⟨b, off, none⟩) vs c) (k m : Nat) (hm : k + m <= vs.length) (c' : Nat) (hc : m <= c') (hc2 : c' <= maxLen) : RowIs W (some ⟨b, off + k, none⟩) ((vs.drop k).take m) c' :=
 ⟨by simp; omega, hc2, (fun e => by cases e), fun h0 => by
  have h0 : 0 < m := by simp at h0; omega
  obtain ⟨b', off', e, hlt, hcell⟩ := h.cells (by omega)
  cases e
  refine ⟨b, off + k, rfl, hlt, fun i v hv => ?_⟩
  have hi : i < m := by
   have := (List.getElem?_eq_some_iff.1 hv).1
   simp at this; omega
  rw [List.getElem?_take_of_lt hi, List.getElem?_drop] at hv
  rw [Nat.add_assoc]
  exact hcell _ _ hv⟩
theorem RowIs.empty {W : World} (o : Option Addr) (c : Nat) (hc : c <= maxLen) (h : o = none -> c = 0) : RowIs W o [] c := ⟨by simp, hc, h, fun h => by simp at h⟩
theorem owns_is {T : TypeId} {W : World} {n : Nat} {v : Value} {xs : List Value} {m : Nat} (h : W.ownsRow n T 1 v m xs) (hm : m = xs.length) : ∃ o c, v = .slice o m c /\ RowIs W o xs c := by
 subst hm
 have h00 := h
 obtain ⟨hl, hx⟩ := h
 rcases hx with ⟨rfl, h0⟩ | ⟨g, cap, cur, rfl, hg, hh, h1, h2, hcur, htake⟩
 ·exact ⟨none, 0, by rw [h0], ⟨by omega, Nat.zero_le _, fun _ => rfl, fun h => by omega⟩⟩
 ·exact ⟨_, cap, rfl, ⟨by simpa using h1, h2, (fun e => by cases e), fun _ => ⟨g, 0, rfl, (aE.1 hh).1, fun i u hu => by
   have hi := (List.getElem?_eq_some_iff.1 hu).1
   rw [Nat.zero_add, World.ownsRow.cellAt h00 i (by omega)]
   exact hu⟩⟩⟩
structure Els (W : World) (bs : List (List UInt8)) (xs : List Value) : Prop where
 len : xs.length = bs.length
 at_ : ∀ i x, xs[i]? = some x -> RowV (bi bs i) x W
theorem Els.later {W W' : World} {bs : List (List UInt8)} {xs : List Value} (h : Els W bs xs) (hb : Below W.heap.size W W') : Els W' bs xs := ⟨h.len, fun i x hx => (h.at_ i x hx).later hb⟩
theorem Els.nil (W : World) : Els W [] [] := ⟨rfl, fun i x hx => by simp at hx⟩
theorem Els.app {W : World} {a b : List (List UInt8)} {xs ys : List Value} (h : Els W a xs) (k : Els W b ys) : Els W (a ++ b) (xs ++ ys) :=
 ⟨by simp [h.len, k.len], fun i x hx => by
  rw [bi_app]
  have hl := h.len
  by_cases hi : i < a.length
  ·rw [if_pos hi]
   rw [List.getElem?_append_left (by omega)] at hx
   exact h.at_ i x hx
  ·rw [if_neg hi, <- hl]
   rw [List.getElem?_append_right (by omega)] at hx
   exact k.at_ _ x hx⟩
theorem Els.one {W : World} {b : List UInt8} {x : Value} (h : RowV b x W) : Els W [b] [x] :=
 ⟨rfl, fun i y hy => by
  match i, hy with
  | 0, hy => simp at hy; subst hy; exact h
  | i + 1, hy => simp at hy⟩
theorem Els.part {W : World} {a : List (List UInt8)} {xs : List Value} (h : Els W a xs) (k m : Nat) : Els W ((a.drop k).take m) ((xs.drop k).take m) :=
 ⟨by simp [h.len], fun i x hx => by
  have hi : i < m := by
   have := (List.getElem?_eq_some_iff.1 hx).1
   simp at this; omega
  rw [List.getElem?_take_of_lt hi, List.getElem?_drop] at hx
  rw [bi_take _ _ _ hi, bi_drop]
  exact h.at_ _ x hx⟩
theorem Els.ones {W : World} {a : List (List UInt8)} {xs : List Value} (h : Els W a xs) : ∀ u ∈ xs, u.oneCell' = true := fun u hu => by
 obtain ⟨i, hi, e⟩ := List.getElem_of_mem hu
 obtain ⟨o, c, rfl, _⟩ := h.at_ i u (by rw [List.getElem?_eq_getElem hi, e])
 rfl
theorem Els.get {W : World} {a : List (List UInt8)} {xs : List Value} (h : Els W a xs) (i : Nat) (hi : i < a.length) : ∃ x, xs[i]? = some x /\ RowV (bi a i) x W := by
 have hl := h.len
 exact ⟨xs[i], List.getElem?_eq_getElem (by omega), h.at_ i _ (List.getElem?_eq_getElem (by omega))⟩
def RbIs (W : World) (o : Option Addr) (bs : List (List UInt8)) (c : Nat) : Prop := ∃ xs, RowIs W o xs c /\ Els W bs xs
theorem RbIs.later {W W' : World} {o : Option Addr} {bs : List (List UInt8)} {c : Nat} (h : RbIs W o bs c) (hb : Below W.heap.size W W') : RbIs W' o bs c := by
 obtain ⟨xs, h1, h2⟩ := h
 exact ⟨xs, h1.later hb, h2.later hb⟩
theorem RbIs.le {W : World} {o : Option Addr} {bs : List (List UInt8)} {c : Nat} (h : RbIs W o bs c) : bs.length <= c /\ c <= maxLen := by
 obtain ⟨xs, h1, h2⟩ := h
 have := h1.le
 rw [h2.len] at this
 exact ⟨this, h1.cap⟩
theorem RbIs.cell {W : World} {o : Option Addr} {bs : List (List UInt8)} {c : Nat} (h : RbIs W o bs c) (i : Nat) (hi : i < bs.length) :
    ∃ b off p q, o = some ⟨b, off, none⟩ /\ b < W.heap.size /\ W.cell? ⟨b, off + i, none⟩ = some (.slice p (bi bs i).length q) /\ RowIs W p (bytesV (bi bs i)) q := by
 obtain ⟨xs, h1, h2⟩ := h
 have hl := h2.len
 obtain ⟨b, off, e, hlt, hc⟩ := h1.cells (by omega)
 obtain ⟨x, hx, p, q, rfl, hr⟩ := h2.get i hi
 exact ⟨b, off, p, q, e, hlt, hc i _ hx, hr⟩
theorem RbIs.part {W : World} {b off : Nat} {bs : List (List UInt8)} {c : Nat} (h : RbIs W (some ⟨b, off, none⟩) bs c) (k m : Nat) (hm : k + m <= bs.length) (c' : Nat) (hc : m <= c') (hc2 : c' <= maxLen) : RbIs W (some ⟨b, off + k, none⟩) ((bs.drop k).take m) c' := by
 obtain ⟨xs, h1, h2⟩ := h
 exact ⟨_, h1.part k m (by rw [h2.len]; exact hm) c' hc hc2, h2.part k m⟩
theorem RbIs.empty {W : World} (o : Option Addr) (c : Nat) (hc : c <= maxLen) (h : o = none -> c = 0) : RbIs W o [] c := ⟨[], RowIs.empty o c hc h, Els.nil W⟩
def RbV (bs : List (List UInt8)) (x : Value) (v : World) : Prop := ∃ o c, x = .slice o bs.length c /\ RbIs v o bs c
theorem RbV.later {bs : List (List UInt8)} {x : Value} {v v' : World} (h : RbV bs x v) (hb : Below v.heap.size v v') : RbV bs x v' := by
 obtain ⟨o, c, e, h⟩ := h
 exact ⟨o, c, e, h.later hb⟩
theorem owns_rb {W : World} {n : Nat} {v : Value} {xs : List Value} {bs : List (List UInt8)} {m : Nat} (h : W.ownsRow n 22 1 v m xs) (hm : m = bs.length) (he : Els W bs xs) : RbV bs v W := by
 obtain ⟨o, c, e, hr⟩ := owns_is h (by rw [he.len, hm])
 exact ⟨o, c, by rw [e, hm], xs, hr, he⟩
theorem own_ltB {T : TypeId} {W : World} {n : Nat} {v : Value} {xs : List Value} {m : Nat} (h : W.ownsRow n T 1 v m xs) : ∀ k, v.ownBlock = some k -> n <= k := fun k e => (World.ownsRow.lt h k e).1
theorem own_belowB {T : TypeId} {w0 w w' : World} {v : Value} {xs : List Value} {m : Nat} (hb : Below w0.heap.size w0 w) (h : w.ownsRow w0.heap.size T 1 v m xs) (hg : w.grownBy w' v.ownBlock) : Below w0.heap.size w0 w' :=
 hb.grown hg hb.size (fun k e => own_ltB h k e)
def KindB (base : Nat) (W : World) (x : Value) : Prop := ∀ ad l c, x = .slice (some ad) l c -> 0 < l -> ad.block < base ∨ ∃ cur, W.heap[ad.block]? = some (.cells cur 5 (0, 0))
structure ElsB (base : Nat) (W : World) (bs : List (List UInt8)) (xs : List Value) : Prop where
 els : Els W bs xs
 kind : ∀ x ∈ xs, KindB base W x
theorem KindB.later {base : Nat} {W W' : World} {x : Value} (h : KindB base W x) (hb : Below W.heap.size W W') : KindB base W' x := fun ad l c e h0 => by
 rcases h ad l c e h0 with h1 | ⟨cur, h1⟩
 ·exact .inl h1
 ·exact .inr ⟨cur, by rw [hb.block _ (aE.1 h1).1]; exact h1⟩
theorem ElsB.later {base : Nat} {W W' : World} {bs : List (List UInt8)} {xs : List Value} (h : ElsB base W bs xs) (hb : Below W.heap.size W W') : ElsB base W' bs xs := ⟨h.els.later hb, fun x hx => (h.kind x hx).later hb⟩
theorem ElsB.nil (base : Nat) (W : World) : ElsB base W [] [] := ⟨Els.nil W, fun x hx => by cases hx⟩
theorem ElsB.app {base : Nat} {W : World} {a b : List (List UInt8)} {xs ys : List Value} (h : ElsB base W a xs) (k : ElsB base W b ys) : ElsB base W (a ++ b) (xs ++ ys) :=
 ⟨h.els.app k.els, fun x hx => by
  rcases List.mem_append.1 hx with hx | hx
  ·exact h.kind x hx
  ·exact k.kind x hx⟩
theorem ElsB.one {base : Nat} {W : World} {b : List UInt8} {x : Value} (h : RowV b x W) (k : KindB base W x) : ElsB base W [b] [x] := ⟨Els.one h, fun y hy => by
 rw [List.mem_singleton] at hy
 subst hy
 exact k⟩
theorem Buf.kind {W : World} {g cap : Nat} {ys : List UInt8} (h : Buf W g cap ys) (base : Nat) : KindB base W (.slice (some ⟨g, 0, none⟩) ys.length cap) := fun ad l c e h0 => by
 cases e
 exact .inr h.cells
theorem Els.old {W : World} {bs : List (List UInt8)} {xs : List Value} (h : Els W bs xs) : ElsB W.heap.size W bs xs := ⟨h, fun x hx => by
 obtain ⟨i, hi, e⟩ := List.getElem_of_mem hx
 obtain ⟨o, c, rfl, hr⟩ := h.at_ i x (by rw [List.getElem?_eq_getElem hi, e])
 intro ad l c' e2 h0
 cases e2
 obtain ⟨b, off, e3, hlt, _⟩ := hr.cells (by simpa using h0)
 cases e3
 exact .inl hlt⟩
theorem ElsB.part {base : Nat} {W : World} {a : List (List UInt8)} {xs : List Value} (h : ElsB base W a xs) (k m : Nat) : ElsB base W ((a.drop k).take m) ((xs.drop k).take m) :=
 ⟨h.els.part k m, fun x hx => h.kind x (List.mem_of_mem_drop (List.mem_of_mem_take hx))⟩
theorem ElsB.keep {base : Nat} {W W' : World} {bs : List (List UInt8)} {xs : List Value} {r : Option Nat} (h : ElsB base W bs xs) (hg : W.grownBy W' r)
    (hr : ∀ k, r = some k -> base <= k /\ ∃ cur T f, W.heap[k]? = some (.cells cur T f) /\ T ≠ 5) : ElsB base W' bs xs := by
 have hkeep : ∀ b, b < W.heap.size -> (b < base ∨ ∃ cur, W.heap[b]? = some (.cells cur 5 (0, 0))) -> W'.heap[b]? = W.heap[b]? := fun b hlt hk => hg.block b hlt fun e => by
  obtain ⟨h1, cur2, T, f, h2, h3⟩ := hr b e.symm
  rcases hk with hk | ⟨cur, hk⟩
  ·omega
  ·rw [h2] at hk
   injection hk with hk
   injection hk with _ hk _
   exact h3 hk
 refine ⟨⟨h.els.len, fun i x hx => ?_⟩, fun x hx ad l c e h0 => ?_⟩
 ·have hkd := h.kind x (List.mem_of_getElem? hx)
  obtain ⟨o, c, rfl, hr⟩ := h.els.at_ i x hx
  refine ⟨o, c, rfl, hr.le, hr.cap, hr.nil, fun h0 => ?_⟩
  obtain ⟨b, off, rfl, hlt, hc⟩ := hr.cells h0
  have hb := hkeep b hlt (hkd _ _ _ rfl (by simpa using h0))
  refine ⟨b, off, rfl, Nat.lt_of_lt_of_le hlt hg.size, fun j v hv => ?_⟩
  have := hc j v hv
  unfold World.cell? at *
  rw [hb]
  exact this
 ·obtain ⟨i, hi, e2⟩ := List.getElem_of_mem hx
  obtain ⟨o, c', e3, hr⟩ := h.els.at_ i x (by rw [List.getElem?_eq_getElem hi, e2])
  rw [e] at e3
  cases e3
  obtain ⟨b, off, e3, hlt, _⟩ := hr.cells (by simpa using h0)
  cases e3
  have hkd := h.kind x hx _ _ _ e h0
  have hb := hkeep b hlt hkd
  rcases hkd with h1 | ⟨cur, h1⟩
  ·exact .inl h1
  ·exact .inr ⟨cur, by rw [hb]; exact h1⟩
theorem own_kind {T : TypeId} {W : World} {base n : Nat} {v : Value} {ys : List Value} (own : W.ownsRow base T 1 v n ys) (hT : T ≠ 5) : ∀ k, v.ownBlock = some k -> base <= k /\ ∃ cur T f, W.heap[k]? = some (.cells cur T f) /\ T ≠ 5 := fun k e => by
 refine ⟨(World.ownsRow.lt own k e).1, ?_⟩
 rcases own.2 with ⟨rfl, _⟩ | ⟨g, cap, cur2, rfl, _, h2, _⟩
 ·cases e
 ·cases e
  exact ⟨cur2, _, _, h2, hT⟩
theorem ElsB.grown {base base' n : Nat} {W W' : World} {bs : List (List UInt8)} {xs ys : List Value} {v : Value} (h : ElsB base W bs xs) (own : W.ownsRow base' 22 1 v n ys) (hg : W.grownBy W' v.ownBlock) (hbb : base <= base' := by exact Nat.le_refl _) : ElsB base W' bs xs :=
 h.keep hg fun k e => ⟨by have := (own_kind own (by decide) k e).1; omega, (own_kind own (by decide) k e).2⟩
theorem append_rowsH_run (w : World) (ty : TypeId) (base : Nat) (v : Value) (n : Nat) (zs : List Value) (hown : w.ownsRow base 22 1 v n zs)
    (ad : Addr) (c : Nat) (ys : List Value) (hrow : RowIs w (some ad) ys c) (hone : ∀ u ∈ ys, u.oneCell' = true) (hl : n + ys.length <= 1000000) (hbase : base <= w.heap.size) :
    ∃ v' w', (Builtin.append_ #[30, 30] ty #[v, .slice (some ad) ys.length c]).run Tryz.prog w = .ok v' w' /\ w'.ownsRow base 22 1 v' (n + ys.length) (zs ++ ys) /\ w.grownBy w' v.ownBlock := by
 obtain ⟨i0, hi, hz0, hz1, hz2⟩ := info_parts info_rowB
 obtain ⟨v', w', h1, h2, h3, _⟩ := run_append_own_wide (P := Tryz.prog) w base 30 ty 22 i0 (.slice none 0 0) 1 24 Tryz.underlying30 hi hz0 hz1 hz2 rfl (by decide) v n zs hown ad ys.length c ys (by simp) (hrow.adds ad rfl) hone (by unfold maxLen; omega) (by omega) hbase
 exact ⟨v', w', h1, h2, h3⟩
theorem append_rowsH {ops : Array Oper} {rest : List Oper} {o : Oper} {a : Act} {Q : Exit -> Act -> World -> Prop} {w : World} (hgd : o.guard = none) (s x : Operand)
    (ho : o.op = .call { callee := .builtin .append, args := #[s, x], argTypes := #[30, 30] })
    (base : Nat) (v : Value) (n : Nat) (zs : List Value) (hs : a.eval s = v) (hown : w.ownsRow base 22 1 v n zs)
    (ad : Option Addr) (m c : Nat) (ys : List Value) (hx : a.eval x = .slice ad m c) (hm : m = ys.length) (hrow : RowIs w ad ys c) (hone : ∀ u ∈ ys, u.oneCell' = true) (hl : n + m <= 1000000) (hbase : base <= w.heap.size)
    (h : ∀ v' w', w'.ownsRow base 22 1 v' (n + m) (zs ++ ys) -> w.grownBy w' v.ownBlock -> wpList Tryz.prog ops Q rest (a.put o.dst v') w') : wpList Tryz.prog ops Q (o :: rest) a w := by
 obtain ⟨i0, hi, hz0, hz1, hz2⟩ := info_parts info_rowB
 subst hm
 cases ad with
 | none =>
  have h0 := hrow.nil rfl
  have hle := hrow.le
  obtain rfl : ys = [] := List.eq_nil_of_length_eq_zero (by omega)
  subst h0
  refine wpList_append_own_none hgd s x 30 ho base 22 i0 1 Tryz.underlying30 hi v n zs hs hown hx ?_
  exact h v w (by simpa using hown) ⟨rfl, rfl, rfl, Nat.le_refl _, fun _ _ _ => rfl⟩
 | some ad =>
  refine wpList_append_own_wide w hgd s x 30 ho base 22 i0 (.slice none 0 0) 1 24 Tryz.underlying30 hi hz0 hz1 hz2 rfl (by decide) v n zs hs hown ad ys.length c ys hx (by simp) (hrow.adds ad rfl) hone (by unfold maxLen; omega) (by omega) hbase ?_
  intro v' w' h1 h2 _
  exact h v' w' h1 h2
structure Mat (W : World) (B gO capO N R : Nat) (Gb Gc : Nat -> Nat) (m : Nat -> Nat -> UInt8) : Prop where
 outer : W.ownsRow B 22 1 (.slice (some ⟨gO, 0, none⟩) R capO) R ((List.range R).map fun i => .slice (some ⟨Gb i, 0, none⟩) N (Gc i))
 row : ∀ i, i < R -> Buf W (Gb i) (Gc i) (tab (m i) N) /\ B <= Gb i
 apart : ∀ i j, i < R -> j < R -> Gb i = Gb j -> i = j
theorem Mat.lt {W : World} {B gO capO N R : Nat} {Gb Gc : Nat -> Nat} {m : Nat -> Nat -> UInt8} (h : Mat W B gO capO N R Gb Gc m) : B <= gO /\ gO < W.heap.size := World.ownsRow.lt h.outer gO rfl
theorem Mat.outCells {W : World} {B gO capO N R : Nat} {Gb Gc : Nat -> Nat} {m : Nat -> Nat -> UInt8} (h : Mat W B gO capO N R Gb Gc m) : ∃ cur, W.heap[gO]? = some (.cells cur 22 (0, 0)) := by
 rcases h.outer.2 with ⟨h1, _⟩ | ⟨g, cap, cur, h1, _, h2, _⟩
 ·cases h1
 ·cases h1
  exact ⟨cur, h2⟩
theorem Mat.ne {W : World} {B gO capO N R : Nat} {Gb Gc : Nat -> Nat} {m : Nat -> Nat -> UInt8} (h : Mat W B gO capO N R Gb Gc m) (i : Nat) (hi : i < R) : gO ≠ Gb i := fun e => by
 obtain ⟨cur, h1⟩ := h.outCells
 obtain ⟨cur2, h2⟩ := (h.row i hi).1.cells
 rw [<- e, h1] at h2
 cases h2
theorem Mat.congr {W : World} {B gO capO N R : Nat} {Gb Gc : Nat -> Nat} {m m' : Nat -> Nat -> UInt8} (h : Mat W B gO capO N R Gb Gc m) (he : ∀ i j, i < R -> j < N -> m i j = m' i j) : Mat W B gO capO N R Gb Gc m' :=
 ⟨h.outer, fun i hi => by
  have e : tab (m' i) N = tab (m i) N := list_ext (by simp) fun j hj => by
   simp at hj
   rw [co_tab _ _ _ hj, co_tab _ _ _ hj, he i j hi hj]
  rw [e]
  exact h.row i hi, h.apart⟩
theorem Mat.later {W W' : World} {B gO capO N R : Nat} {Gb Gc : Nat -> Nat} {m : Nat -> Nat -> UInt8} (h : Mat W B gO capO N R Gb Gc m) (hb : Below W.heap.size W W') : Mat W' B gO capO N R Gb Gc m :=
 ⟨World.ownsRow.kept (row := none) h.outer ⟨hb.os, hb.tape, hb.output, hb.size, fun i hi _ => hb.block i hi⟩ (.inr (by simp [Value.ownBlock])), fun i hi => ⟨(h.row i hi).1.later hb, (h.row i hi).2⟩, h.apart⟩
theorem Mat.cell {W : World} {B gO capO N R : Nat} {Gb Gc : Nat -> Nat} {m : Nat -> Nat -> UInt8} (h : Mat W B gO capO N R Gb Gc m) (i j : Nat) (hi : i < R) (hj : j < N) : W.cell? ⟨Gb i, j, none⟩ = some (.int .u8 ((m i j).toNat : Int)) := by
 have := (h.row i hi).1.cell j (by simpa using hj)
 rwa [co_tab _ _ _ hj] at this
theorem Mat.frozen {W : World} {B gO capO N R : Nat} {Gb Gc : Nat -> Nat} {m : Nat -> Nat -> UInt8} (h : Mat W B gO capO N R Gb Gc m) (i j : Nat) (hi : i < R) : W.frozen? ⟨Gb i, j, none⟩ = false := (h.row i hi).1.frozen j
theorem Mat.hdr {W : World} {B gO capO N R : Nat} {Gb Gc : Nat -> Nat} {m : Nat -> Nat -> UInt8} (h : Mat W B gO capO N R Gb Gc m) (i : Nat) (hi : i < R) : W.cell? ⟨gO, i, none⟩ = some (.slice (some ⟨Gb i, 0, none⟩) N (Gc i)) := by
 rw [World.ownsRow.cellAt h.outer i (by omega)]
 simp [hi]
theorem Mat.cap {W : World} {B gO capO N R : Nat} {Gb Gc : Nat -> Nat} {m : Nat -> Nat -> UInt8} (h : Mat W B gO capO N R Gb Gc m) : R <= capO /\ capO <= maxLen := by
 rcases h.outer.2 with ⟨h1, _⟩ | ⟨g, cap, cur, h1, _, _, h2, h3, _⟩
 ·cases h1
 ·cases h1
  exact ⟨h2, h3⟩
def put2 (m : Nat -> Nat -> UInt8) (i j : Nat) (x : UInt8) (a b : Nat) : UInt8 := if a = i /\ b = j then x else m a b
theorem Mat.store {W : World} {B gO capO N R : Nat} {Gb Gc : Nat -> Nat} {m : Nat -> Nat -> UInt8} (h : Mat W B gO capO N R Gb Gc m) (i j : Nat) (hi : i < R) (hj : j < N) (x : UInt8) :
    Mat (W.setCell ⟨Gb i, j, none⟩ (.int .u8 (x.toNat : Int))) B gO capO N R Gb Gc (put2 m i j x) /\ Only (Gb i) W (W.setCell ⟨Gb i, j, none⟩ (.int .u8 (x.toNat : Int))) := by
 have hs := (h.row i hi).1.store j x
 refine ⟨⟨World.ownsRow.kept h.outer hs.2 (.inr fun e => h.ne i hi (by cases e; rfl)), fun a ha => ?_, h.apart⟩, hs.2⟩
 by_cases e : a = i
 ·subst e
  have e2 : tab (put2 m a j x a) N = (tab (m a) N).set j x := list_ext (by simp) fun b hb => by
   simp at hb
   rw [co_tab _ _ _ hb, co_set, co_tab _ _ _ hb]
   unfold put2
   by_cases e3 : j = b
   ·subst e3
    rw [if_pos ⟨rfl, rfl⟩, if_pos ⟨rfl, by simpa using hb⟩]
   ·rw [if_neg (fun h => e3 h.2.symm), if_neg (fun h => e3 h.1)]
  rw [e2]
  exact ⟨hs.1, (h.row a ha).2⟩
 ·have e2 : tab (put2 m i j x a) N = tab (m a) N := list_ext (by simp) fun b hb => by
   simp at hb
   rw [co_tab _ _ _ hb, co_tab _ _ _ hb]
   unfold put2
   rw [if_neg (fun h => e h.1)]
  rw [e2]
  refine ⟨?_, (h.row a ha).2⟩
  exact World.ownsRow.kept (h.row a ha).1 hs.2 (.inr fun e3 => e (h.apart a i ha hi (Option.some.inj (show some (Gb a) = some (Gb i) from e3))))
def shN (n : Int) : Nat := if n < 0 then 0 else if 1000 < n then 1000 else n.toNat
theorem shift_tr (p : List UInt8) (k m : Nat) (hm : m = k + p.length) : tr (splice (List.replicate m 0) k p) = tr (shiftL p k) := tr_congr fun i => by
 rw [co_splice _ _ _ _ (by simp; omega), co_shiftL, zeros_co]
 unfold Gf.ps
 by_cases h : k <= i
 ·rw [if_pos h]
  by_cases h2 : i < k + p.length
  ·rw [if_pos ⟨h, h2⟩]
  ·rw [if_neg (fun g => h2 g.2), co_ge (by omega)]
 ·rw [if_neg h, if_neg (fun g => h g.1)]
theorem shift_some (n : Int) (o : Option Addr) (c : Nat) (w : World) (p : List UInt8) (hP : RowIs w o (bytesV p) c) (hl : p.length <= 1000000) (hp0 : ¬ p.length = 0) :
    Calls Tryz.prog 159 #[.slice o p.length c, .int .i64 n] w (Rows (tr (shiftL p (shN n))) w) := by
 obtain ⟨i0, hi, hz0, hz1, hz2⟩ := info_parts info_u8
 have h1 := hP.le
 have h2 := hP.cap
 simp only [bytesV_length] at h1
 unfold maxLen at h2
 have HP := Lh hP
 have HPOS : Hid (∀ w1, Below w.heap.size w w1 -> 0 < (bytesV p).length -> ∃ ad, o = some ad /\ ∀ j v, (bytesV p)[j]? = some v -> w1.cell? (ad.add j) = some v) := Lh fun w1 hb h0 => by
  have hr := HP.out.later hb
  obtain ⟨b, off, rfl, _, _⟩ := hr.cells h0
  exact ⟨_, rfl, hr.adds _ rfl⟩
 clear hP
 by_cases hn : n < 0
 ·have e : shN n = 0 := by unfold shN; rw [if_pos hn]
  rw [e]
  clear e
  go_enter Tryz.func159, Tryz.ntmps159
  go_wp2_with (at_make; refine wpList_make_full _ rfl _ _ 22 rfl 0 5 i0 (.int .u8 0) 1 Tryz.underlying22 hi hz0 hz1 _ _ _ _ (p.length) rfl rfl (by omega) (by omega) (by rw [hz2]; omega) (by unfold maxLen; omega) (Nat.zero_le _) ?_)
  intro w1 hown hgrow
  have hb1 : Below w.heap.size w w1 := (Below.refl _ _).grown hgrow (Nat.le_refl _) (fun k h => by cases h)
  have HB1 := Lh hb1
  have HF1 := Lh ((buf_made hown).full (by simp) : Full w1 w.heap.size (List.replicate (p.length) 0))
  clear hown hgrow hb1
  go_wp2_with (refine wpList_copy_splice rfl (.tmp 16) (.tmp 17) 22 22 rfl 5 Tryz.underlying22 (by rw [hi]; simp [hz1]) _ _ _ _ _ _ rfl rfl w.heap.size 0 (bytesV (List.replicate (p.length) 0)) 5 HF1.out (bytesV p) (by simp only [bytesV_length]; exact (Nat.min_eq_left (by omega)).symm) (fun h0 => ⟨rfl, HPOS.out _ HB1.out h0⟩) (by rw [bytesV_length, bytesV_length, List.length_replicate]; omega) (bytesV_one p) w.heap.size w HB1.out (Nat.le_refl _) ?_)
  intro w2 hfull2 hb2
  have hl : (splice (List.replicate (p.length) (0 : UInt8)) 0 p).length = p.length := by rw [length_splice _ _ _ (by simp only [List.length_replicate]; omega)]; simp
  have hbuf : Buf w2 w.heap.size (p.length) (splice (List.replicate (p.length) 0) 0 p) := by
   have h : Full w2 w.heap.size (splice (List.replicate (p.length) 0) 0 p) := by unfold Full; rw [<- splice_bytes]; exact hfull2
   have := h.buf (by rw [hl]; unfold maxLen; omega)
   rw [hl] at this
   exact this
  have hcut := cut_any _ _ _ w2 hbuf.row
  rw [hl, shift_tr _ _ _ (by omega)] at hcut
  have HB2 := Lh hb2
  clear hfull2 hb2 hbuf hl
  have HCUT := Lh hcut
  clear hcut
  go_wp2_with fail
  refine HCUT.out.mono ?_; rintro e w3 ⟨rfl, hb3, hr3⟩
  have HB3 := Lh (Ks HB2.out hb3)
  have HR3 := Lh hr3
  clear hb3 hr3 HCUT
  go_wp2_with fail
  go_ret
  exact ⟨_, rfl, ⟨_, _, rfl, HR3.out⟩, HB3.out⟩
 ·by_cases hm : 1000 < n
  ·have e : shN n = 1000 := by unfold shN; rw [if_neg hn, if_pos hm]
   rw [e]
   clear e
   have hn0 : ¬ (0 : Int) > n := by omega
   go_enter Tryz.func159, Tryz.ntmps159
   go_wp2_with (at_make; refine wpList_make_full _ rfl _ _ 22 rfl 0 5 i0 (.int .u8 0) 1 Tryz.underlying22 hi hz0 hz1 _ _ _ _ (1000 + p.length) rfl rfl (by omega) (by omega) (by rw [hz2]; omega) (by unfold maxLen; omega) (Nat.zero_le _) ?_)
   intro w1 hown hgrow
   have hb1 : Below w.heap.size w w1 := (Below.refl _ _).grown hgrow (Nat.le_refl _) (fun k h => by cases h)
   have HB1 := Lh hb1
   have HF1 := Lh ((buf_made hown).full (by simp) : Full w1 w.heap.size (List.replicate (1000 + p.length) 0))
   clear hown hgrow hb1
   go_wp2_with (refine wpList_copy_splice rfl (.tmp 16) (.tmp 17) 22 22 rfl 5 Tryz.underlying22 (by rw [hi]; simp [hz1]) _ _ _ _ _ _ rfl rfl w.heap.size 1000 (bytesV (List.replicate (1000 + p.length) 0)) 5 HF1.out (bytesV p) (by simp only [bytesV_length]; exact (Nat.min_eq_left (by omega)).symm) (fun h0 => ⟨rfl, HPOS.out _ HB1.out h0⟩) (by rw [bytesV_length, bytesV_length, List.length_replicate]; omega) (bytesV_one p) w.heap.size w HB1.out (Nat.le_refl _) ?_)
   intro w2 hfull2 hb2
   have hl : (splice (List.replicate (1000 + p.length) (0 : UInt8)) 1000 p).length = 1000 + p.length := by rw [length_splice _ _ _ (by simp only [List.length_replicate]; omega)]; simp
   have hbuf : Buf w2 w.heap.size (1000 + p.length) (splice (List.replicate (1000 + p.length) 0) 1000 p) := by
    have h : Full w2 w.heap.size (splice (List.replicate (1000 + p.length) 0) 1000 p) := by unfold Full; rw [<- splice_bytes]; exact hfull2
    have := h.buf (by rw [hl]; unfold maxLen; omega)
    rw [hl] at this
    exact this
   have hcut := cut_any _ _ _ w2 hbuf.row
   rw [hl, shift_tr _ _ _ (by omega)] at hcut
   have HB2 := Lh hb2
   clear hfull2 hb2 hbuf hl
   have HCUT := Lh hcut
   clear hcut
   go_wp2_with fail
   refine HCUT.out.mono ?_; rintro e w3 ⟨rfl, hb3, hr3⟩
   have HB3 := Lh (Ks HB2.out hb3)
   have HR3 := Lh hr3
   clear hb3 hr3 HCUT
   go_wp2_with fail
   go_ret
   exact ⟨_, rfl, ⟨_, _, rfl, HR3.out⟩, HB3.out⟩
  ·obtain ⟨k, rfl⟩ := Int.eq_ofNat_of_zero_le (show 0 <= n by omega)
   have e : shN (k : Int) = k := by unfold shN; rw [if_neg hn, if_neg hm]; rfl
   rw [e]
   have hk : k <= 1000 := by omega
   clear e hn
   go_enter Tryz.func159, Tryz.ntmps159
   go_wp2_with (at_make; refine wpList_make_full _ rfl _ _ 22 rfl 0 5 i0 (.int .u8 0) 1 Tryz.underlying22 hi hz0 hz1 _ _ _ _ (k + p.length) rfl rfl (by omega) (by omega) (by rw [hz2]; omega) (by unfold maxLen; omega) (Nat.zero_le _) ?_)
   intro w1 hown hgrow
   have hb1 : Below w.heap.size w w1 := (Below.refl _ _).grown hgrow (Nat.le_refl _) (fun k h => by cases h)
   have HB1 := Lh hb1
   have HF1 := Lh ((buf_made hown).full (by simp) : Full w1 w.heap.size (List.replicate (k + p.length) 0))
   clear hown hgrow hb1
   go_wp2_with (refine wpList_copy_splice rfl (.tmp 16) (.tmp 17) 22 22 rfl 5 Tryz.underlying22 (by rw [hi]; simp [hz1]) _ _ _ _ _ _ rfl rfl w.heap.size k (bytesV (List.replicate (k + p.length) 0)) 5 HF1.out (bytesV p) (by simp only [bytesV_length]; exact (Nat.min_eq_left (by omega)).symm) (fun h0 => ⟨rfl, HPOS.out _ HB1.out h0⟩) (by rw [bytesV_length, bytesV_length, List.length_replicate]; omega) (bytesV_one p) w.heap.size w HB1.out (Nat.le_refl _) ?_)
   intro w2 hfull2 hb2
   have hl : (splice (List.replicate (k + p.length) (0 : UInt8)) k p).length = k + p.length := by rw [length_splice _ _ _ (by simp only [List.length_replicate]; omega)]; simp
   have hbuf : Buf w2 w.heap.size (k + p.length) (splice (List.replicate (k + p.length) 0) k p) := by
    have h : Full w2 w.heap.size (splice (List.replicate (k + p.length) 0) k p) := by unfold Full; rw [<- splice_bytes]; exact hfull2
    have := h.buf (by rw [hl]; unfold maxLen; omega)
    rw [hl] at this
    exact this
   have hcut := cut_any _ _ _ w2 hbuf.row
   rw [hl, shift_tr _ _ _ (by omega)] at hcut
   have HB2 := Lh hb2
   clear hfull2 hb2 hbuf hl
   have HCUT := Lh hcut
   clear hcut
   go_wp2_with fail
   refine HCUT.out.mono ?_; rintro e w3 ⟨rfl, hb3, hr3⟩
   have HB3 := Lh (Ks HB2.out hb3)
   have HR3 := Lh hr3
   clear hb3 hr3 HCUT
   go_wp2_with fail
   go_ret
   exact ⟨_, rfl, ⟨_, _, rfl, HR3.out⟩, HB3.out⟩
theorem shift_none (n : Int) (o : Option Addr) (c : Nat) (w : World) (h2 : c <= 9223372036854775807) :
    Calls Tryz.prog 159 #[.slice o 0 c, .int .i64 n] w (Rows (tr (shiftL [] (shN n))) w) := by
 obtain ⟨i0, hi, hz0, hz1, hz2⟩ := info_parts info_u8
 by_cases hn : n < 0
 ·have e : shN n = 0 := by unfold shN; rw [if_pos hn]
  rw [e]
  clear e
  go_enter Tryz.func159, Tryz.ntmps159
  go_wp2_with (at_make; refine wpList_make_full _ rfl _ _ 22 rfl 0 5 i0 (.int .u8 0) 1 Tryz.underlying22 hi hz0 hz1 _ _ _ _ (0) rfl rfl (by omega) (by omega) (by rw [hz2]; omega) (by unfold maxLen; omega) (Nat.zero_le _) ?_)
  intro w1 hown hgrow
  have hb1 : Below w.heap.size w w1 := (Below.refl _ _).grown hgrow (Nat.le_refl _) (fun k h => by cases h)
  have HB1 := Lh hb1
  have hbuf := buf_made hown
  have hcut := cut_any _ _ _ w1 hbuf.row
  rw [List.length_replicate, show List.replicate (0) (0 : UInt8) = shiftL [] (0) by simp [shiftL]] at hcut
  have HB2 := Lh hb1
  clear hown hgrow hb1 hbuf
  go_wp2_with (refine wpList_copy_nothing rfl (.tmp 16) (.tmp 17) 22 22 rfl 5 Tryz.underlying22 (by rw [hi]; simp [hz1]) _ _ _ _ _ _ rfl rfl rfl ?_)
  have HCUT := Lh hcut
  clear hcut
  go_wp2_with fail
  refine HCUT.out.mono ?_; rintro e w3 ⟨rfl, hb3, hr3⟩
  have HB3 := Lh (Ks HB2.out hb3)
  have HR3 := Lh hr3
  clear hb3 hr3 HCUT
  go_wp2_with fail
  go_ret
  exact ⟨_, rfl, ⟨_, _, rfl, HR3.out⟩, HB3.out⟩
 ·by_cases hm : 1000 < n
  ·have e : shN n = 1000 := by unfold shN; rw [if_neg hn, if_pos hm]
   rw [e]
   clear e
   have hn0 : ¬ (0 : Int) > n := by omega
   go_enter Tryz.func159, Tryz.ntmps159
   go_wp2_with (at_make; refine wpList_make_full _ rfl _ _ 22 rfl 0 5 i0 (.int .u8 0) 1 Tryz.underlying22 hi hz0 hz1 _ _ _ _ (1000) rfl rfl (by omega) (by omega) (by rw [hz2]; omega) (by unfold maxLen; omega) (Nat.zero_le _) ?_)
   intro w1 hown hgrow
   have hb1 : Below w.heap.size w w1 := (Below.refl _ _).grown hgrow (Nat.le_refl _) (fun k h => by cases h)
   have HB1 := Lh hb1
   have hbuf := buf_made hown
   have hcut := cut_any _ _ _ w1 hbuf.row
   rw [List.length_replicate, show List.replicate (1000) (0 : UInt8) = shiftL [] (1000) by simp [shiftL]] at hcut
   have HB2 := Lh hb1
   clear hown hgrow hb1 hbuf
   go_wp2_with (refine wpList_copy_nothing rfl (.tmp 16) (.tmp 17) 22 22 rfl 5 Tryz.underlying22 (by rw [hi]; simp [hz1]) _ _ _ _ _ _ rfl rfl rfl ?_)
   have HCUT := Lh hcut
   clear hcut
   go_wp2_with fail
   refine HCUT.out.mono ?_; rintro e w3 ⟨rfl, hb3, hr3⟩
   have HB3 := Lh (Ks HB2.out hb3)
   have HR3 := Lh hr3
   clear hb3 hr3 HCUT
   go_wp2_with fail
   go_ret
   exact ⟨_, rfl, ⟨_, _, rfl, HR3.out⟩, HB3.out⟩
  ·obtain ⟨k, rfl⟩ := Int.eq_ofNat_of_zero_le (show 0 <= n by omega)
   have e : shN (k : Int) = k := by unfold shN; rw [if_neg hn, if_neg hm]; rfl
   rw [e]
   have hk : k <= 1000 := by omega
   clear e hn
   go_enter Tryz.func159, Tryz.ntmps159
   go_wp2_with (at_make; refine wpList_make_full _ rfl _ _ 22 rfl 0 5 i0 (.int .u8 0) 1 Tryz.underlying22 hi hz0 hz1 _ _ _ _ (k) rfl rfl (by omega) (by omega) (by rw [hz2]; omega) (by unfold maxLen; omega) (Nat.zero_le _) ?_)
   intro w1 hown hgrow
   have hb1 : Below w.heap.size w w1 := (Below.refl _ _).grown hgrow (Nat.le_refl _) (fun k h => by cases h)
   have HB1 := Lh hb1
   have hbuf := buf_made hown
   have hcut := cut_any _ _ _ w1 hbuf.row
   rw [List.length_replicate, show List.replicate (k) (0 : UInt8) = shiftL [] (k) by simp [shiftL]] at hcut
   have HB2 := Lh hb1
   clear hown hgrow hb1 hbuf
   go_wp2_with (refine wpList_copy_nothing rfl (.tmp 16) (.tmp 17) 22 22 rfl 5 Tryz.underlying22 (by rw [hi]; simp [hz1]) _ _ _ _ _ _ rfl rfl rfl ?_)
   have HCUT := Lh hcut
   clear hcut
   go_wp2_with fail
   refine HCUT.out.mono ?_; rintro e w3 ⟨rfl, hb3, hr3⟩
   have HB3 := Lh (Ks HB2.out hb3)
   have HR3 := Lh hr3
   clear hb3 hr3 HCUT
   go_wp2_with fail
   go_ret
   exact ⟨_, rfl, ⟨_, _, rfl, HR3.out⟩, HB3.out⟩
theorem shift_any (p : List UInt8) (n : Int) (o : Option Addr) (c : Nat) (w : World) (hP : RowIs w o (bytesV p) c) (hl : p.length <= 1000000) :
    Calls Tryz.prog 159 #[.slice o p.length c, .int .i64 n] w (Rows (tr (shiftL p (shN n))) w) := by
 by_cases h0 : p.length = 0
 ·obtain rfl : p = [] := List.eq_nil_of_length_eq_zero h0
  exact shift_none n o c w (by have := hP.cap; unfold maxLen at this; omega)
 ·exact shift_some n o c w p hP hl h0
end Go.Proofs.YtffheegeaghfjaaGreatDoor
