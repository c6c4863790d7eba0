/- Labels: the plain answers; the code's Master, Label, inRange, Number. keysOf and the closure that it makes; Key. Label's Key: the code's. Label's All: the code's; the rows of keys; Same. -/
import Derived.Test.YtgpojlblhaphnaaDoorMac
import Derived.Test.YtgpojlblhaphnaaDoorApa
import Derived.Lib.SmallJoins
import Derived.Test.YtgpojlblhaphnaaDoorTm
import Derived.Lib.ConvBytes
import Derived.Test.YtgpojlblhaphnaaDoorErr
import Derived.StillTailTactics
namespace Go.Proofs.YtgpojlblhaphnaaDoor.Da
/-- a number as eight bytes, the high one first -/
def num8 (n : Int) : List UInt8 := be8 (n % 18446744073709551616).toNat
/-- a small letter -/
def lw (c : UInt8) : Bool := decide (97 ≤ c.toNat) && decide (c.toNat ≤ 122)
def isLab (s : List UInt8) : Bool := decide (0 < s.length) && (decide (s.length < 13) && s.all lw)
def isMas (n : Nat) : Bool := decide (16 ≤ n) && decide (n ≤ 64)
def inR (n : Int) : Bool := decide (0 ≤ n) && decide (n ≤ 1099511627776)
def keyL (k s : List UInt8) (n : Int) : List UInt8 := hmac k (s ++ 0 :: num8 n)
theorem num8_length (n : Int) : (num8 n).length = 8 := be8_length _
theorem keyL_length (k s : List UInt8) (n : Int) : (keyL k s n).length = 32 := hmac_length _ _
def nbp (m j : Nat) : List UInt8 := (List.range 8).map fun i => if 7 - i < j then UInt8.ofNat (m / 256 ^ (7 - i)) else 0
theorem nbp_length (m j : Nat) : (nbp m j).length = 8 := by simp [nbp]
theorem nbp_zero (m : Nat) : nbp m 0 = List.replicate 8 0 := by
  refine List.ext_getElem (by simp [nbp]) fun j h1 h2 => ?_
  rw [List.getElem_replicate]; simp only [nbp, List.getElem_map, Nat.not_lt_zero, if_false]
theorem nbp_end (m : Nat) : nbp m 8 = be8 m := by
  unfold nbp be8
  refine List.map_congr_left fun q hq => ?_
  rw [if_pos (by omega)]
theorem nbp_step (m j : Nat) (hj : j < 8) : (nbp m j).set (7 - j) (UInt8.ofNat (m / 256 ^ j)) = nbp m (j + 1) := by
  refine List.ext_getElem (by simp [nbp]) fun i h1 h2 => ?_
  have hi : i < 8 := by simpa [nbp] using h1
  simp only [nbp, List.getElem_set, List.getElem_map, List.getElem_range]
  by_cases e : 7 - j = i
  · rw [if_pos e, if_pos (by omega), show 7 - i = j by omega]
  · rw [if_neg e]
    by_cases e2 : 7 - i < j
    · rw [if_pos e2, if_pos (show 7 - i < j + 1 by omega)]
    · rw [if_neg e2, if_neg (show ¬ 7 - i < j + 1 by omega)]
theorem all_lw {s : List UInt8} (h : ∀ j, j < s.length → lw (s.getD j 0) = true) : s.all lw = true := List.all_eq_true.2 fun x hx => by
  obtain ⟨i, hi, rfl⟩ := List.mem_iff_getElem.1 hx
  have := h i hi
  simpa [List.getD, hi] using this
theorem not_lw {s : List UInt8} {j : Nat} (hj : j < s.length) (h : lw (s.getD j 0) = false) : s.all lw = false := by
  rw [Bool.eq_false_iff]
  intro k
  have := List.all_eq_true.1 k (s.getD j 0) (by simp [hj])
  rw [h] at this
  cases this
end Go.Proofs.YtgpojlblhaphnaaDoor.Da
namespace Go.Proofs.YtgpojlblhaphnaaDoor
open Go.RowKit
set_option linter.unusedVariables false
set_option linter.unusedSimpArgs false
/-- a text's byte -/
theorem str_at (s : ByteArray) (i : Nat) (c : UInt8) (hi : i < s.size) (hc : s.data.toList.getD i 0 = c) (W : World) : (Instr.index 9 (.string s) (.int .i64 (i : Int))).run Tryd.prog W = .ok (.int .u8 (c.toNat : Int)) W := by
  rw [run_index_string W 9 s .i64 (i : Int) Tryd.underlying9, dif_pos (by omega)]
  have : s[(i : Int).toNat]'(by omega) = c := by
    rw [← hc]
    have h1 : i < s.data.toList.length := hi
    simp only [List.getD_eq_getElem?_getD, List.getElem?_eq_getElem h1, Option.getD_some]
    rfl
  rw [this]
def LlAt (s : List UInt8) (w : World) (i : Value) (wr : World) : Prop :=
  ∃ k : Nat, k ≤ s.length ∧ i = .int .i64 k ∧ (∀ j, j < k → Da.lw (s.getD j 0) = true) ∧ wr = w
def LnAt (m g : Nat) (w : World) (i l : Value) (wr : World) : Prop :=
  ∃ j : Nat, j ≤ 8 ∧ i = .int .i64 (7 - (j : Int)) ∧ l = .int .u64 ((m / 256 ^ j : Nat) : Int) ∧ Arr wr g 90 (bytesV (Da.nbp m j)) ∧ Below w.heap.size w wr
set_option maxRecDepth 100000 in
theorem lnum_of (Z : Array Value) (hZ : Z = (bytesV (List.replicate 8 0)).toArray) (hzs : ∀ w, Sem.run Tryd.prog (zeroValue 90) w = .ok (.agg Z) w) (n : Int) (w : World) :
    Calls Tryd.prog 39 #[.int .i64 n] w fun e w' => e = .returned (.slice (some ⟨w.heap.size, 0, none⟩) 8 8) ∧ Arr w' w.heap.size 90 (bytesV (Da.num8 n)) ∧ Below w.heap.size w w' := by
  obtain ⟨g, hg⟩ : ∃ g, w.heap.size = g := ⟨_, rfl⟩
  obtain ⟨W1, hW1⟩ : ∃ W1, w.alloc (Obj.cells Z 90) = W1 := ⟨_, rfl⟩
  obtain ⟨m, hm⟩ : ∃ m, (n % 18446744073709551616).toNat = m := ⟨_, rfl⟩
  have hwr : IntKind.u64.wrap n = (m : Int) := by rw [IntKind.wrap_u64]; omega
  have hml : m < 18446744073709551616 := by omega
  have HB1 : Hid (Below w.heap.size w W1) := Lib.hid (by rw [← hW1]; exact (Below.refl _ _).alloc (Nat.le_refl _) _)
  have HX0 : Hid (LnAt m g w (.int .i64 7) (.int .u64 (m : Int)) W1) := Lib.hid ⟨0, by omega, rfl, by rw [Nat.pow_zero, Nat.div_one], by rw [Da.nbp_zero, ← hW1, hZ, ← hg]; exact Arr.made _ _ _, HB1.out⟩
  have HM : Hid (Da.num8 n = Da.nbp m 8) := Lib.hid (by rw [Da.nbp_end, ← hm]; rfl)
  have HW1 := Lib.hid hW1
  have HG := Lib.hid hg
  clear hW1 hm hZ hg
  go_enter Tryd.func39, Tryd.ntmps39
  go_wp2_with (first | rw [HW1.out, HG.out])
  go_loopw [4, 5] (fun i l wr => LnAt m g w i l wr) (fun i _ _ => (intOf i + 1).toNat)
  case atStart => exact HX0.out
  case round =>
    obtain ⟨j, hj, rfl, rfl, hA, hB⟩ := hrel
    by_cases hlt : j < 8
    · have hd1 : decide ((7 : Int) - (j : Int) ≥ 0) = true := by simp; omega
      obtain ⟨p, hp⟩ : ∃ p, 7 - j = p := ⟨_, rfl⟩
      obtain ⟨q, hq⟩ : ∃ q, m / 256 ^ j = q := ⟨_, rfl⟩
      have hql : q < 18446744073709551616 := by rw [← hq]; exact Nat.lt_of_le_of_lt (Nat.div_le_self _ _) hml
      have hpi : (7 : Int) - (j : Int) = (p : Int) := by omega
      obtain ⟨y, hy⟩ : ∃ y, (Da.nbp m j).getD p 0 = y := ⟨_, rfl⟩
      have hc : wr.cell? ⟨g, p, none⟩ = some (.int .u8 (y.toNat : Int)) := by rw [hA.cell, ← hy]; exact bytesV_get _ _ (by rw [Da.nbp_length]; omega)
      have hfz := hA.frozen p
      have HA := Lib.hid hA
      have HB := Lib.hid hB
      have HQ := Lib.hid hq
      have HP := Lib.hid hp
      have hpl : p < 8 := by omega
      rw [hpi, hq]
      rw [hpi] at hd1
      clear hA hB hq hp hy HX0 HB1 HW1 hwr
      go_wp2_with fail
      refine ⟨⟨j + 1, by omega, by go_num, by rw [Nat.pow_succ, ← Nat.div_div_eq_div_mul, HQ.out]; rfl, ?_, HA.out.below HB.out (by have := HG.out; omega) _ _⟩, by simp [intOf]⟩
      rw [← Da.nbp_step m j hlt, HP.out, HQ.out, ← bytesV_set', show ((q : Int) % 256) = ((UInt8.ofNat q).toNat : Int) from by rw [UInt8.toNat_ofNat']; omega]
      exact HA.out.set p _
    · obtain rfl : j = 8 := by omega
      have hd1 : decide ((7 : Int) - ((8 : Nat) : Int) ≥ 0) = false := by decide
      have HA := Lib.hid hA
      have HB := Lib.hid hB
      clear hA hB HX0 HB1 HW1 hwr
      go_wp2_with fail
      go_ret
      exact ⟨by rw [HG.out]; rfl, by rw [HM.out, HG.out]; exact HA.out, HB.out⟩
theorem lnum_any (n : Int) (w : World) :
    Calls Tryd.prog 39 #[.int .i64 n] w fun e w' => e = .returned (.slice (some ⟨w.heap.size, 0, none⟩) 8 8) ∧ Arr w' w.heap.size 90 (bytesV (Da.num8 n)) ∧ Below w.heap.size w w' := lnum_of _ rfl a8_zero n w
end Go.Proofs.YtgpojlblhaphnaaDoor
namespace Go.Proofs.YtgpojlblhaphnaaDoor
open Go.RowKit
set_option linter.unusedVariables false
set_option linter.unusedSimpArgs false
/-- what the closure holds -/
structure KO (k : List UInt8) (n : Int) (b : Nat) (W : World) : Prop where
  key : ∃ p, Arr W b 42 [.pointer (some ⟨p, 0, none⟩)] ∧ Arr W p 67 (bytesV (Da.fil k))
  num : ∃ q, Arr W (b + 1) 22 [.slice (some ⟨q, 0, none⟩) 8 8] ∧ Arr W q 90 (bytesV (Da.num8 n))
theorem KO.later {k : List UInt8} {n : Int} {b : Nat} {W W' : World} (h : KO k n b W) (hb : Below W.heap.size W W') : KO k n b W' := by
  obtain ⟨⟨p, h1, h2⟩, ⟨q, h3, h4⟩⟩ := h
  exact ⟨⟨p, h1.later hb h1.lt, h2.later hb h2.lt⟩, ⟨q, h3.later hb h3.lt, h4.later hb h4.lt⟩⟩
theorem three_parts {w : World} {a1 a2 a3 : Option Addr} {c1 c2 c3 : Nat} {x y z : List UInt8} (h1 : RowIs w a1 (bytesV x) c1) (h2 : RowIs w a2 (bytesV y) c2) (h3 : RowIs w a3 (bytesV z) c3) :
    RbIs (w.alloc (.cells #[.slice a1 x.length c1, .slice a2 y.length c2, .slice a3 z.length c3] 22)) (some ⟨w.heap.size, 0, none⟩) [x, y, z] 3 :=
  have hA : Arr (w.alloc (.cells #[.slice a1 x.length c1, .slice a2 y.length c2, .slice a3 z.length c3] 22)) w.heap.size 22 [.slice a1 x.length c1, .slice a2 y.length c2, .slice a3 z.length c3] := Arr.made _ _ _
  have hb : Below w.heap.size w (w.alloc (.cells #[.slice a1 x.length c1, .slice a2 y.length c2, .slice a3 z.length c3] 22)) := (Below.refl _ _).alloc (Nat.le_refl _) _
  ⟨[.slice a1 x.length c1, .slice a2 y.length c2, .slice a3 z.length c3], ⟨by simp, by unfold maxLen; decide, fun h => by (cases h), fun h0 => ⟨w.heap.size, 0, rfl, hA.lt, fun i v hv => by rw [Nat.zero_add, hA.cell]; exact hv⟩⟩,
    ((Els.one ⟨a1, c1, rfl, h1.later hb⟩).app (Els.one ⟨a2, c2, rfl, h2.later hb⟩)).app (Els.one ⟨a3, c3, rfl, h3.later hb⟩)⟩
/-- a text as bytes: a new row -/
theorem conv_row (w : World) (s : ByteArray) (hl : s.size ≤ 1000000) :
    ∃ c, (convert 9 22 (.string s)).run Tryd.prog w = .ok (.slice (some ⟨w.heap.size, 0, none⟩) s.size c) (Lib.bytesWorld w 5 s) ∧
      RowIs (Lib.bytesWorld w 5 s) (some ⟨w.heap.size, 0, none⟩) (bytesV s.data.toList) c ∧ Below w.heap.size w (Lib.bytesWorld w 5 s) := by
  have hsl : s.data.toList.length = s.size := rfl
  have h1 := grownCap_ge w s.size 0 5
  have h2 := grownCap_le_maxLen w s.size 0 5 (by unfold maxLen; omega)
  refine ⟨_, Lib.run_convert_string_bytes w _ _ 5 s Tryd.underlying9 Tryd.underlying22 Tryd.underlying5, ⟨by rw [bytesV_length, hsl]; exact h1, h2, fun h => by (cases h), fun h0 => ⟨w.heap.size, 0, rfl, by rw [Lib.bytesWorld_size]; omega, fun i v hv => ?_⟩⟩, Joins.below_bytesWorld _ _ _ _ (Nat.le_refl _)⟩
  have hi : i < s.size := by have := (List.getElem?_eq_some_iff.1 hv).1; rwa [bytesV_length, hsl] at this
  rw [Nat.zero_add, Lib.bytesWorld_cell w _ s i hi, ← hv]
  exact (bytesV_get _ _ hi).symm
end Go.Proofs.YtgpojlblhaphnaaDoor
namespace Go.Proofs.YtgpojlblhaphnaaDoor.Da
/-- the error's number -/
def kbad (m l r : Bool) : Nat := if m then (if l then (if r then 0 else 1) else 6) else 9
def abad (m r : Bool) : Nat := if m then (if r then 0 else 1) else 9
def kres (b : Nat) (x : List UInt8) : List UInt8 := if b = 0 then x else []
end Go.Proofs.YtgpojlblhaphnaaDoor.Da
namespace Go.Proofs.YtgpojlblhaphnaaDoor
open Go.RowKit
set_option linter.unusedVariables false
set_option linter.unusedSimpArgs false
/-- an error's number as an error -/
def errV (A : Nat → Addr) (b : Nat) : Value := if b = 0 then .nilIface else .iface 98 (.pointer (some (A (b - 1))))
namespace Er
/-- the sentinels of labels -/
structure E9 (W : World) (A : Nat → Addr) : Prop where
  c0 : W.cell? ⟨0, 0, none⟩ = some (.iface 98 (.pointer (some (A 0))))
  c5 : W.cell? ⟨5, 0, none⟩ = some (.iface 98 (.pointer (some (A 5))))
  c8 : W.cell? ⟨8, 0, none⟩ = some (.iface 98 (.pointer (some (A 8))))
theorem cell_lt9 {W : World} {g : Nat} {v : Value} (hc : W.cell? ⟨g, 0, none⟩ = some v) : g < W.heap.size := by
  unfold World.cell? at hc
  cases hh : W.heap[g]? with
  | none => simp [hh] at hc
  | some o => exact (Array.getElem?_eq_some_iff.1 hh).1
theorem cell_later {W W' : World} {g : Nat} {v : Value} (hc : W.cell? ⟨g, 0, none⟩ = some v) (hb : Below W.heap.size W W') : W'.cell? ⟨g, 0, none⟩ = some v := by
  have hlt : g < W.heap.size := by
    unfold World.cell? at hc
    cases hh : W.heap[g]? with
    | none => simp [hh] at hc
    | some o => exact (Array.getElem?_eq_some_iff.1 hh).1
  rw [hb.cell (p := ⟨g, 0, none⟩) hlt]; exact hc
theorem E9.later {W W' : World} {A : Nat → Addr} (h : E9 W A) (hb : Below W.heap.size W W') : E9 W' A := ⟨cell_later h.c0 hb, cell_later h.c5 hb, cell_later h.c8 hb⟩
theorem Errs.nine {W : World} {A : Nat → Addr} (h : Errs W A) : E9 W A := ⟨h.c0, h.c5, h.c8⟩
theorem num_any (A : Nat → Addr) (b : Nat) (hb : b ≤ 20) (w : World) (hE : Errs w A) :
    Calls Tryd.prog 9 #[errV A b] w fun e w' => e = .returned (.int .i64 (b : Int)) ∧ Below w.heap.size w w' := by
  unfold errV
  by_cases h : b = 0
  · subst h
    rw [if_pos rfl]
    refine (num_nil w).mono ?_
    rintro e w' ⟨rfl, rfl⟩
    exact ⟨rfl, Below.refl _ _⟩
  · rw [if_neg h]
    have := num_of A (b - 1) (by omega) w hE
    rw [show b - 1 + 1 = b by omega] at this
    exact this
end Er
theorem RowV.nil (w : World) : RowV [] (.slice none 0 0) w := ⟨none, 0, rfl, RowIs.empty none 0 (Nat.zero_le _) (fun _ => rfl)⟩
end Go.Proofs.YtgpojlblhaphnaaDoor
namespace Go.Proofs.YtgpojlblhaphnaaDoor.Da
def lMask : List UInt8 := [109, 97, 115, 107]
def lPlace : List UInt8 := [112, 108, 97, 99, 101]
def lSent : List UInt8 := [115, 101, 110, 116, 105, 110, 101, 108]
def lTag : List UInt8 := [116, 97, 103]
def lSpot : List UInt8 := [115, 112, 111, 116]
/-- an object's keys -/
def keysL (k : List UInt8) (n : Int) : List (List UInt8) := [keyL k lMask n, keyL k lPlace n, keyL k lSent n, keyL k lTag n, keyL k lSpot n]
def ares (b : Nat) (l : List (List UInt8)) : List (List UInt8) := if b = 0 then l else [[], [], [], [], []]
end Go.Proofs.YtgpojlblhaphnaaDoor.Da
namespace Go.Proofs.YtgpojlblhaphnaaDoor
open Go.RowKit
set_option linter.unusedVariables false
set_option linter.unusedSimpArgs false
def nil5 : List Value := [.slice none 0 0, .slice none 0 0, .slice none 0 0, .slice none 0 0, .slice none 0 0]
theorem sl5_one (o0 o1 o2 o3 o4 : Option Addr) (l0 l1 l2 l3 l4 c0 c1 c2 c3 c4 : Nat) :
    ([.slice o0 l0 c0, .slice o1 l1 c1, .slice o2 l2 c2, .slice o3 l3 c3, .slice o4 l4 c4] : List Value).toArray.all (·.oneCell') = true :=
  all_oneCell_toArray (fun v hv => by
    simp only [List.mem_cons, List.not_mem_nil, or_false] at hv
    rcases hv with rfl | rfl | rfl | rfl | rfl <;> rfl)
theorem res_ct {P : Program} {fn : Func} {p u : Tmp} {ty : TypeId} (h : fn.results = #[.cell p ty, .tmp u]) (tmps : Array Value) (w : World) (g : Nat) (t : TypeId) (cs : Array Value) (fr : Nat × Nat) (d : TypeDesc)
    (hp : tmps.getD p undef = .pointer (some ⟨g, 0, none⟩)) (hg : w.heap[g]? = some (.cells cs t fr))
    (hu : P.underlying ty = some d) (hd : (match d with | .struct _ | .array _ _ => true | _ => false) = true) (hi : (P.info? ty).map (·.size) = some cs.size) :
    (results fn tmps).run P w = .ok (.tuple #[.agg cs, tmps.getD u undef]) w := by
  rw [results_cell_tmp h, hp]
  simp [asAddr, run_loadVar_row w g t ty cs fr d hg hu hd hi]
theorem exec_blt0 {P : Program} {o : Oper} {a : Act} {T : TypeId} {Z : Array Value} (ho : o.op = .build T #[]) (hb : P.built T [] = some Z) (v : World) : (execOp a.eval o).run P v = .ok (.value (.agg Z)) v := by
  have e : (((#[] : Array (Nat × Operand)).map fun (i, x) => (i, a.eval x))) = #[] := by simp
  have h := run_build (P := P) v T #[] Z hb
  simp [execOp, ho, h, Result.andThen]
/-- the store elsewhere leaves a sentinel's cell -/
theorem cell_row {w : World} {g e : Nat} {v : Value} (h : w.cell? ⟨e, 0, none⟩ = some v) (C : Array Value) (hne : e ≠ g) : (w.setRow g C).cell? ⟨e, 0, none⟩ = some v := by
  unfold World.cell?
  rw [setRow_other _ _ _ _ hne]
  exact h
/-- a new block that holds the bytes -/
structure Rnew (w w' : World) (g : Nat) (z : List UInt8) : Prop where
  le : w.heap.size ≤ g
  arr : Arr w' g 68 (bytesV z)
theorem Rnew.later {w w' w'' : World} {g : Nat} {z : List UInt8} (h : Rnew w w' g z) (hb : Below w'.heap.size w' w'') : Rnew w w'' g z := ⟨h.le, h.arr.later hb h.arr.lt⟩
theorem Rnew.row {w w' : World} {g : Nat} {z : List UInt8} (h : Rnew w w' g z) (hz : z.length = 32) (h' : Nat) (C : Array Value) (hh : h' ≠ g) : RowV z (.slice (some ⟨g, 0, none⟩) 32 32) (w'.setRow h' C) := by
  have hA : Arr (w'.setRow h' C) g 68 (bytesV z) := by unfold Arr; rw [setRow_other _ _ _ _ (fun e => hh e.symm)]; exact h.arr
  have := hA.row (by rw [hz]; unfold maxLen; decide)
  exact ⟨_, 32, by rw [hz], by rw [hz] at this; exact this⟩
theorem els_nil5 (w : World) : Els w [[], [], [], [], []] nil5 :=
  ((((Els.one (RowV.nil w)).app (Els.one (RowV.nil w))).app (Els.one (RowV.nil w))).app (Els.one (RowV.nil w))).app (Els.one (RowV.nil w))
end Go.Proofs.YtgpojlblhaphnaaDoor
