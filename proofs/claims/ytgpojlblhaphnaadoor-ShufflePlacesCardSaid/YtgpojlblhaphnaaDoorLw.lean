/- Rows that a conversion of a text made, and what is appended to them. The document's labels: Number, Label. The document's Key. The document's All. -/
import Derived.Test.YtgpojlblhaphnaaDoorApa
import Derived.Lib.SmallJoins
import Derived.Lib.ConvBytes
import Derived.Laws.IdiomCopy
import Derived.Lib.AppendZeros
import Derived.Test.YtgpojlblhaphnaaDoorLy
import Derived.Test.YtgpojlblhaphnaaDoorHp
import Derived.Test.YtgpojlblhaphnaaDoorMr
import Derived.Test.YtgpojlblhaphnaaDoorLz
namespace Go.Proofs.YtgpojlblhaphnaaDoor
open Go.RowKit
set_option linter.unusedVariables false
set_option linter.unusedSimpArgs false
theorem grown_tr {a b c : World} {row : Option Nat} (h : a.grownBy b row) (k : b.grownBy c row) : a.grownBy c row :=
  ⟨k.os.trans h.os, k.tape.trans h.tape, k.output.trans h.output, Nat.le_trans h.size k.size, fun i hi hn => (k.block i (Nat.lt_of_lt_of_le hi h.size) hn).trans (h.block i hi hn)⟩
/-- many cells of one block set: the block, and what else there is -/
theorem cells_put (g : Nat) (T : TypeId) (fz : Nat × Nat) : ∀ (vs : List Value) (o : Nat) (W : World) (cur : Array Value), W.heap[g]? = some (.cells cur T fz) → o + vs.length ≤ cur.size →
    ∃ cur', (W.setCells g o vs).heap[g]? = some (.cells cur' T fz) ∧ cur'.size = cur.size ∧ cur'.toList.take (o + vs.length) = cur.toList.take o ++ vs ∧ W.grownBy (W.setCells g o vs) (some g)
  | [], o, W, cur, h, hl => ⟨cur, h, rfl, by simp, ⟨rfl, rfl, rfl, Nat.le_refl _, fun _ _ _ => rfl⟩⟩
  | v :: r, o, W, cur, h, hl => by
    have ho : o < cur.size := by simp at hl; omega
    have e : W.setCell ⟨g, o, none⟩ v = W.setRow g (cur.setIfInBounds o v) := setCell_eq_setRow W g o cur T fz v h
    have h1 : (W.setCell ⟨g, o, none⟩ v).heap[g]? = some (.cells (cur.setIfInBounds o v) T fz) := by rw [e]; exact setRow_heap _ _ _ _ _ _ h
    obtain ⟨cur', k1, k2, k3, k4⟩ := cells_put g T fz r (o + 1) _ _ h1 (by simp at hl ⊢; omega)
    refine ⟨cur', k1, by rw [k2]; simp, ?_, grown_tr (by rw [e]; exact grown_row _) k4⟩
    rw [List.length_cons, show o + (r.length + 1) = o + 1 + r.length by omega, k3, Array.toList_setIfInBounds, List.take_add_one, List.getElem?_set_self (by simpa using ho), List.take_set_of_le (Nat.le_refl _)]
    simp
/-- a row of bytes of the call's own, frozen nowhere but past its end -/
def CRow (W : World) (base : Nat) (v : Value) (z : List UInt8) : Prop :=
  ∃ g cap cur fz, v = .slice (some ⟨g, 0, none⟩) z.length cap ∧ base ≤ g ∧ W.heap[g]? = some (.cells cur 5 fz) ∧ (fz.2 ≤ fz.1 ∨ cap ≤ fz.1) ∧ z.length ≤ cap ∧ cap ≤ maxLen ∧ cur.size = cap ∧ cur.toList.take z.length = bytesV z
theorem CRow.row {W : World} {base : Nat} {v : Value} {z : List UInt8} (h : CRow W base v z) : ∃ g c, v = .slice (some ⟨g, 0, none⟩) z.length c ∧ base ≤ g ∧ g < W.heap.size ∧ RowIs W (some ⟨g, 0, none⟩) (bytesV z) c := by
  obtain ⟨g, cap, cur, fz, rfl, hb, hg, _, hz, hm, hs, ht⟩ := h
  have hlt : g < W.heap.size := (Array.getElem?_eq_some_iff.1 hg).1
  refine ⟨g, cap, rfl, hb, hlt, ⟨by rw [bytesV_length]; exact hz, hm, fun h => (by cases h), fun h0 => ⟨g, 0, rfl, hlt, fun i u hu => ?_⟩⟩⟩
  rw [Nat.zero_add, cell_of_row W g i cur _ fz hg]
  rw [← ht, List.getElem?_take] at hu
  split at hu
  · simpa using hu
  · cases hu
theorem CRow.rowV {W : World} {base : Nat} {v : Value} {z : List UInt8} (h : CRow W base v z) : RowV z v W := by
  obtain ⟨g, c, rfl, _, _, hr⟩ := h.row
  exact ⟨_, c, rfl, hr⟩
theorem CRow.later {W W' : World} {base : Nat} {v : Value} {z : List UInt8} (h : CRow W base v z) (hb : Below W.heap.size W W') : CRow W' base v z := by
  obtain ⟨g, cap, cur, fz, rfl, hb', hg, rest⟩ := h
  exact ⟨g, cap, cur, fz, rfl, hb', by rw [hb.block g (Array.getElem?_eq_some_iff.1 hg).1]; exact hg, rest⟩
theorem CRow.below {w W W' : World} {v : Value} {z : List UInt8} (hb : Below w.heap.size w W) (h : CRow W w.heap.size v z) (hg : W.grownBy W' v.ownBlock) : Below w.heap.size w W' := by
  obtain ⟨g, cap, cur, fz, rfl, hb', _⟩ := h
  exact below_grown hb hg hb' hb.size
theorem crow_conv (w : World) (s : ByteArray) (hl : s.size ≤ 1000000) :
    ∃ v, (convert 9 22 (.string s)).run Tryd.prog w = .ok v (Lib.bytesWorld w 5 s) ∧ CRow (Lib.bytesWorld w 5 s) w.heap.size v s.data.toList ∧ Below w.heap.size w (Lib.bytesWorld w 5 s) := by
  have hsl : s.data.toList.length = s.size := rfl
  have h1 := grownCap_ge w s.size 0 5
  have h2 := grownCap_le_maxLen w s.size 0 5 (by unfold maxLen; omega)
  have hsz : (Lib.bytesCells w 5 s).size = grownCap w s.size 0 5 := by
    simp only [Lib.bytesCells, Array.size_append, Array.size_map, Array.size_replicate]
    have : s.data.size = s.size := rfl
    omega
  refine ⟨_, Lib.run_convert_string_bytes w _ _ 5 s Tryd.underlying9 Tryd.underlying22 Tryd.underlying5, ⟨_, _, _, _, rfl, Nat.le_refl _, Lib.bytesWorld_at_new w _ s, .inr (by rw [hsz]; exact Nat.le_refl _), by rw [hsl]; exact h1, h2, hsz, ?_⟩, Joins.below_bytesWorld _ _ _ _ (Nat.le_refl _)⟩
  unfold Lib.bytesCells
  rw [Array.toList_append, hsl]
  have e : (s.data.map fun b => Value.int .u8 b.toNat).toList = bytesV s.data.toList := by simp [bytesV]
  rw [e]
  exact List.take_left' (by rw [bytesV_length, hsl])
/-- append to such a row -/
theorem crow_append_run (w : World) (ty : TypeId) (base : Nat) (v : Value) (z : List UInt8) (h : CRow w base v z) (a : Addr) (m c : Nat) (y : List UInt8) (hm : m = y.length) (hy : RowIs w (some a) (bytesV y) c) (hl : z.length + y.length ≤ 10000000) (hbase : base ≤ w.heap.size) :
    ∃ v' w', (Builtin.append_ #[22, 22] ty #[v, .slice (some a) m c]).run Tryd.prog w = .ok v' w' ∧ CRow w' base v' (z ++ y) ∧ w.grownBy w' v.ownBlock := by
  subst hm
  obtain ⟨i0, hi, hz0, hz1, hz2⟩ := info_parts info_u8
  obtain ⟨g, cap, cur, fz, rfl, hb, hg, hf, hz, hmx, hs, ht⟩ := h
  have hnews := hy.adds a rfl
  by_cases hroom : z.length + y.length ≤ cap
  · obtain ⟨cur', k1, k2, k3, k4⟩ := cells_put g 5 fz (bytesV y) z.length w cur hg (by rw [bytesV_length, hs]; exact hroom)
    have hfc := run_firstCells_some (P := Tryd.prog) w i0.size y.length a y.length c (bytesV y) (by rw [hz1]; simp) hnews
    have hst := run_storeCells_cells (P := Tryd.prog) g z.length (bytesV y) 0 w
      (fun j hj => by rw [cell_of_row w g _ cur _ fz hg]; rw [bytesV_length] at hj; simp; omega)
      (fun j hj => by
        rw [bytesV_length] at hj
        obtain ⟨lo, hi'⟩ := fz
        simp only [World.frozen?, hg, Bool.and_eq_false_iff, decide_eq_false_iff_not]
        simp only at hf
        omega) (bytesV_one y)
    simp only [Nat.add_zero] at hst
    refine ⟨.slice (some ⟨g, 0, none⟩) (z.length + y.length) cap, w.setCells g z.length (bytesV y), ?_, ⟨g, cap, cur', fz, by rw [List.length_append], hb, k1, hf, by rw [List.length_append]; exact hroom, hmx, by rw [k2]; exact hs, ?_⟩, k4⟩
    · simp [Builtin.append_, run_underlying Tryd.underlying22, sizeOf, typeInfo, hi, hz1, Builtin.lenOf, hroom, Addr.add_lit, hst]
      rw [hz1] at hfc
      simp [hfc, hst]
    · rw [List.length_append]
      rw [bytesV_length] at k3
      rw [k3, ht]; simp [bytesV]
  · have holds : ∀ j u, (bytesV z)[j]? = some u → w.cell? ((⟨g, 0, none⟩ : Addr).add j) = some u := fun j u hu => by
      rw [Addr.add_lit, Nat.zero_add, cell_of_row w g j cur _ fz hg]
      rw [← ht, List.getElem?_take] at hu
      split at hu
      · simpa using hu
      · cases hu
    have hr := run_append_grow (P := Tryd.prog) w 22 ty 5 i0 (.int .u8 0) Tryd.underlying22 hi hz0 ⟨g, 0, none⟩ z.length cap (bytesV z) (by rw [hz1]; simp) holds a y.length c (bytesV y) (by rw [hz1]; simp) hnews (by omega) (by omega) (growslice_fits (by omega) (by rw [hz2]; omega))
    have hge := grownCap_ge w (z.length + y.length) cap 5
    have hcm := grownCap_le_maxLen w (z.length + y.length) cap 5 (by unfold maxLen; omega)
    refine ⟨_, _, hr, ⟨w.heap.size, _, _, (0, 0), by rw [List.length_append], hbase, heap_alloc_new w.drew _, .inl (Nat.le_refl _), by rw [List.length_append]; exact hge, hcm, ?_, ?_⟩, ⟨rfl, rfl, rfl, by simp, fun k hk _ => (by
      show (w.heap.push _)[k]? = w.heap[k]?
      rw [Array.getElem?_push_lt hk, Array.getElem?_eq_getElem hk])⟩⟩
    · simp only [Array.size_append, List.size_toArray, bytesV_length, Builtin.zeroCells, Array.size_flatten, Value.cells]
      simp
      omega
    · rw [Array.toList_append, Array.toList_append]
      rw [show (bytesV z).toArray.toList ++ (bytesV y).toArray.toList = bytesV (z ++ y) by simp [bytesV]]
      exact List.take_left' (by rw [bytesV_length])
theorem crow_append {ops : Array Oper} {rest : List Oper} {o : Oper} {a : Act} {Q : Exit → Act → World → Prop} {w : World} (hgd : o.guard = none) (s x : Operand)
    (ho : o.op = .call { callee := .builtin .append, args := #[s, x], argTypes := #[22, 22] })
    (base : Nat) (v : Value) (z : List UInt8) (hs : a.eval s = v) (hown : CRow w base v z)
    (ad : Addr) (m c : Nat) (y : List UInt8) (hx : a.eval x = .slice (some ad) m c) (hm : m = y.length) (hrow : RowIs w (some ad) (bytesV y) c) (hl : z.length + y.length ≤ 10000000) (hbase : base ≤ w.heap.size)
    (h : ∀ v' w', CRow w' base v' (z ++ y) → w.grownBy w' v.ownBlock → wpList Tryd.prog ops Q rest (a.put o.dst v') w') : wpList Tryd.prog ops Q (o :: rest) a w := by
  obtain ⟨v', w', hr, h1, h2⟩ := crow_append_run w o.type base v z hown ad m c y hm hrow hl hbase
  exact Lib.wpList_append_run w hgd s x _ _ ho _ _ hs hx v' w' hr (h v' w' h1 h2)
end Go.Proofs.YtgpojlblhaphnaaDoor
namespace Go.Proofs.YtgpojlblhaphnaaDoor
open Go.RowKit
set_option linter.unusedVariables false
set_option linter.unusedSimpArgs false
def RnAt (m g : Nat) (w : World) (x i : Value) (wr : World) : Prop :=
  ∃ j : Nat, j ≤ 8 ∧ i = .int .i64 (7 - (j : Int)) ∧ x = .int .u64 ((m / 256 ^ j : Nat) : Int) ∧ Arr wr g 5 (bytesV (Da.nbp m j)) ∧ Below w.heap.size w wr
set_option maxRecDepth 100000 in
theorem rnum9_any (n : Int) (w : World) :
    Calls Tryd.prog 27 #[.int .i64 n] w fun e w' => ∃ g, e = .returned (.slice (some ⟨g, 0, none⟩) 8 8) ∧ RowIs w' (some ⟨g, 0, none⟩) (bytesV (Da.num8 n)) 8 ∧ Below w.heap.size w w' := by
  obtain ⟨i0, hi, hz0, hz1, hz2⟩ := info_parts info_u8
  obtain ⟨m, hm⟩ : ∃ m, (n % 18446744073709551616).toNat = m := ⟨_, rfl⟩
  have hwr : IntKind.u64.wrap n = (m : Int) := by rw [IntKind.wrap_u64]; omega
  have hml : m < 18446744073709551616 := by omega
  have HM : Hid (Da.num8 n = Da.nbp m 8) := Lib.hid (by rw [Da.nbp_end, ← hm]; rfl)
  clear hm
  go_enter Tryd.func27, Tryd.ntmps27
  go_wp2_with (at_make; refine wpList_make_full _ rfl _ _ 22 rfl 0 5 i0 (.int .u8 0) 1 Tryd.underlying22 hi hz0 hz1 _ _ _ _ 8 rfl rfl (by omega) (by omega) (by rw [hz2]; omega) (by unfold maxLen; omega) (Nat.zero_le _) ?_)
  intro w1 hown hgrow
  have hb1 : Below w.heap.size w w1 := (Below.refl _ _).grown hgrow (Nat.le_refl _) (fun k h => by cases h)
  obtain ⟨g, hg⟩ : ∃ g, w.heap.size = g := ⟨_, rfl⟩
  rw [hg] at hown
  rw [made_bytes] at hown
  have hA1 := (arr_of_own hown).1
  have HX0 : Hid (RnAt m g w (.int .u64 (m : Int)) (.int .i64 7) w1) := Lib.hid ⟨0, by omega, rfl, by rw [Nat.pow_zero, Nat.div_one], by rw [Da.nbp_zero]; exact hA1, hb1⟩
  have HG := Lib.hid hg
  clear hown hgrow hb1 hA1 hg
  go_wp2_with (first | rw [HG.out])
  go_loopw [4, 5] (fun x i wr => RnAt m g w x i wr) (fun _ i _ => (intOf i + 1).toNat)
  case atStart => exact HX0.out
  case round =>
    obtain ⟨j, hj, rfl, rfl, hA, hB⟩ := hrel
    by_cases hlt : j < 8
    · have hd1 : decide ((7 : Int) - (j : Int) ≥ 0) = true := by simp; omega
      obtain ⟨p, hp⟩ : ∃ p, 7 - j = p := ⟨_, rfl⟩
      obtain ⟨q, hq⟩ : ∃ q, m / 256 ^ j = q := ⟨_, rfl⟩
      have hql : q < 18446744073709551616 := by rw [← hq]; exact Nat.lt_of_le_of_lt (Nat.div_le_self _ _) hml
      have hpi : (7 : Int) - (j : Int) = (p : Int) := by omega
      obtain ⟨y, hy⟩ : ∃ y, (Da.nbp m j).getD p 0 = y := ⟨_, rfl⟩
      have hc : wr.cell? ⟨g, p, none⟩ = some (.int .u8 (y.toNat : Int)) := by rw [hA.cell, ← hy]; exact bytesV_get _ _ (by rw [Da.nbp_length]; omega)
      have hfz := hA.frozen p
      have HA := Lib.hid hA
      have HB := Lib.hid hB
      have HQ := Lib.hid hq
      have HP := Lib.hid hp
      have hpl : p < 8 := by omega
      have ht1 : Int.tmod (q : Int) 256 = ((q % 256 : Nat) : Int) := rfl
      have ht2 : Int.tdiv (q : Int) 256 = ((q / 256 : Nat) : Int) := rfl
      rw [hpi, hq]
      rw [hpi] at hd1
      clear hA hB hq hp hy HX0 hwr
      go_wp2_with fail
      refine ⟨⟨j + 1, by omega, by go_num, by rw [Nat.pow_succ, ← Nat.div_div_eq_div_mul, HQ.out]; rfl, ?_, HA.out.below HB.out (by have := HG.out; omega) _ _⟩, by simp [intOf]⟩
      rw [← Da.nbp_step m j hlt, HP.out, HQ.out, ← bytesV_set', show ((q : Int) % 256) = ((UInt8.ofNat q).toNat : Int) from by rw [UInt8.toNat_ofNat']; omega]
      exact HA.out.set p _
    · obtain rfl : j = 8 := by omega
      have hd1 : decide ((7 : Int) - ((8 : Nat) : Int) ≥ 0) = false := by decide
      have hrow : RowIs wr (some ⟨g, 0, none⟩) (bytesV (Da.num8 n)) 8 := by
        have := hA.row (by rw [Da.nbp_length]; unfold maxLen; decide)
        rw [Da.nbp_length, ← HM.out] at this
        exact this
      have HROW := Lib.hid hrow
      have HB := Lib.hid hB
      clear hA hB hrow HX0 hwr
      go_wp2_with fail
      go_ret
      exact ⟨g, rfl, HROW.out, HB.out⟩
end Go.Proofs.YtgpojlblhaphnaaDoor
namespace Go.Proofs.YtgpojlblhaphnaaDoor
open Go.RowKit
set_option linter.unusedVariables false
set_option linter.unusedSimpArgs false
end Go.Proofs.YtgpojlblhaphnaaDoor
namespace Go.Proofs.YtgpojlblhaphnaaDoor.Da
def pk (l : List (List UInt8)) (q : Nat) : List (List UInt8) := (List.range 5).map fun i => if i < q then bi l i else []
theorem pk_length (l : List (List UInt8)) (q : Nat) : (pk l q).length = 5 := by simp [pk]
theorem pk_zero (l : List (List UInt8)) : pk l 0 = [[], [], [], [], []] := rfl
theorem pk_end (k : List UInt8) (n : Int) : pk (keysL k n) 5 = keysL k n := rfl
theorem pk_step (l : List (List UInt8)) (q : Nat) (_hq : q < 5) : (pk l q).set q (bi l q) = pk l (q + 1) := by
  refine List.ext_getElem (by simp [pk]) fun j h1 h2 => ?_
  simp only [pk, List.getElem_set, List.getElem_map, List.getElem_range]
  by_cases e : q = j
  · subst e; simp
  · rw [if_neg e]
    by_cases e2 : j < q
    · rw [if_pos e2, if_pos (show j < q + 1 by omega)]
    · rw [if_neg e2, if_neg (show ¬ j < q + 1 by omega)]
/-- the labels of an object's keys, as texts -/
def lb (q : Nat) : ByteArray := match q with
  | 0 => ⟨#[109, 97, 115, 107]⟩
  | 1 => ⟨#[112, 108, 97, 99, 101]⟩
  | 2 => ⟨#[115, 101, 110, 116, 105, 110, 101, 108]⟩
  | 3 => ⟨#[116, 97, 103]⟩
  | _ => ⟨#[115, 112, 111, 116]⟩
theorem lb_lab (q : Nat) (hq : q < 5) : isLab (lb q).data.toList = true := by
  match q, hq with
  | 0, _ => decide
  | 1, _ => decide
  | 2, _ => decide
  | 3, _ => decide
  | 4, _ => decide
theorem lb_small (q : Nat) (hq : q < 5) : (lb q).size ≤ 1000 := by
  match q, hq with
  | 0, _ => decide
  | 1, _ => decide
  | 2, _ => decide
  | 3, _ => decide
  | 4, _ => decide
theorem lb_key (k : List UInt8) (n : Int) (q : Nat) (hq : q < 5) : keyL k (lb q).data.toList n = bi (keysL k n) q := by
  match q, hq with
  | 0, _ => rfl
  | 1, _ => rfl
  | 2, _ => rfl
  | 3, _ => rfl
  | 4, _ => rfl
theorem kbad_abad (m r : Bool) : kbad m true r = abad m r := rfl
end Go.Proofs.YtgpojlblhaphnaaDoor.Da
namespace Go.Proofs.YtgpojlblhaphnaaDoor
open Go.RowKit
set_option linter.unusedVariables false
set_option linter.unusedSimpArgs false
def lbV : List Value := [.string (Da.lb 0), .string (Da.lb 1), .string (Da.lb 2), .string (Da.lb 3), .string (Da.lb 4)]
theorem lbV_at (q : Nat) (hq : q < 5) : lbV[q]? = some (.string (Da.lb q)) := by
  match q, hq with
  | 0, _ => rfl
  | 1, _ => rfl
  | 2, _ => rfl
  | 3, _ => rfl
  | 4, _ => rfl
/-- a row of bytes doesn't lie among slices -/
theorem row_ne_arr {W : World} {z : List UInt8} {ad : Addr} {c b : Nat} {T : TypeId} {xs : List Value} (hr : RowIs W (some ad) (bytesV z) c) (h0 : 0 < z.length) (hA : Arr W b T xs) (hx : ∀ v ∈ xs, ∃ o l c, v = .slice o l c) : ad.block ≠ b := fun e => by
  obtain ⟨b', off, e2, _, hc⟩ := hr.cells (by rw [bytesV_length]; exact h0)
  obtain rfl := Option.some.inj e2
  have h1 := hc 0 _ (bytesV_get z 0 h0)
  subst e
  rw [hA.cell] at h1
  obtain ⟨o, l, c', h2⟩ := hx _ (List.mem_of_getElem? h1)
  cases h2
theorem RowV.putArr {W W' : World} {z : List UInt8} {x : Value} {b : Nat} {T : TypeId} {xs : List Value} (hr : RowV z x W) (hA : Arr W b T xs) (hx : ∀ v ∈ xs, ∃ o l c, v = .slice o l c) (hg : W.grownBy W' (some b)) : RowV z x W' := by
  obtain ⟨o, c, rfl, hr⟩ := hr
  refine ⟨o, c, rfl, hr.kept hg fun h0 ad e => ?_⟩
  subst e
  rw [bytesV_length] at h0
  exact fun e => row_ne_arr hr h0 hA hx (Option.some.inj e)
theorem Els.putArr {W W' : World} {bs : List (List UInt8)} {ys : List Value} {b : Nat} {T : TypeId} {xs : List Value} (h : Els W bs ys) (hA : Arr W b T xs) (hx : ∀ v ∈ xs, ∃ o l c, v = .slice o l c) (hg : W.grownBy W' (some b)) : Els W' bs ys :=
  ⟨h.len, fun i x hi => (h.at_ i x hi).putArr hA hx hg⟩
theorem Els.set {W : World} {bs : List (List UInt8)} {xs : List Value} (h : Els W bs xs) (i : Nat) {b : List UInt8} {v : Value} (hv : RowV b v W) : Els W (bs.set i b) (xs.set i v) := by
  refine ⟨by simp [h.len], fun j x hx => ?_⟩
  have hl := h.len
  have hj : j < xs.length := by have := (List.getElem?_eq_some_iff.1 hx).1; simpa using this
  rw [List.getElem?_set] at hx
  by_cases e : i = j
  · subst e
    rw [if_pos rfl, if_pos hj] at hx
    obtain rfl := Option.some.inj hx
    have : bi (bs.set i b) i = b := by simp [bi, List.getD, show i < bs.length by omega]
    rw [this]; exact hv
  · rw [if_neg e] at hx
    have : bi (bs.set i b) j = bi bs j := by simp [bi, List.getD, List.getElem?_set_ne e]
    rw [this]; exact h.at_ j x hx
theorem Els.slices {W : World} {bs : List (List UInt8)} {xs : List Value} (h : Els W bs xs) : ∀ v ∈ xs, ∃ o l c, v = .slice o l c := fun v hv => by
  obtain ⟨i, hi, rfl⟩ := List.mem_iff_getElem.1 hv
  obtain ⟨o, c, e, _⟩ := h.at_ i _ (List.getElem?_eq_getElem hi)
  exact ⟨o, _, c, e⟩
theorem nil5_slices : ∀ v ∈ nil5, ∃ o l c, v = .slice o l c := fun v hv => by
  simp only [nil5, List.mem_cons, List.not_mem_nil, or_false, or_self] at hv
  exact ⟨none, 0, 0, hv⟩
end Go.Proofs.YtgpojlblhaphnaaDoor
