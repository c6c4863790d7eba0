/- The walk of CodeSyndromes. -/
import Derived.Test.YtkkmgjjafbjnjaaDoorEn
import Derived.Test.YtkkmgjjafbjnjaaDoorAl3
import Derived.Test.YtkkmgjjafbjnjaaDoorRw
import Derived.Test.YtkkmgjjafbjnjaaDoorCp
namespace Go.Proofs.YtkkmgjjafbjnjaaDoor
open Go.RowKit
set_option linter.unusedVariables false
set_option linter.unusedSimpArgs false
theorem syn_built : Tryd.prog.built 34 [] = some (bytesV zsyn).toArray := by kernel_rfl
theorem syn_guard : Tryd.prog.eqGuardType Tryd.prog.depth 34 = false := by kernel_rfl
theorem syn_eql (xs ys : List UInt8) (hx : xs.length = 32) (hy : ys.length = 32) (w : World) : (binOp .eql 34 (.agg (bytesV xs).toArray) (.agg (bytesV ys).toArray)).run Tryd.prog w = .ok (.bool (xs == ys)) w :=
  run_eql_bytes w 34 5 32 syn_under Tryd.underlying5 (fun w => by
    obtain ⟨i0, hi, _, hz1, _⟩ := info_parts info_u8
    simp [sizeOf, typeInfo, hi, hz1]) xs ys hx hy
theorem does_load_row {P : Program} {G : Nat → Value → World → Prop} {Q : Exit → Act → World → Prop} {i : Nat} {o : Oper} {b : Act} {v : World} {x : Operand} {ty t : TypeId} {g : Nat} {cs : Array Value} {fr : Nat × Nat} {d : TypeDesc} (ho : o.op = .load ty x) (hx : b.eval x = .pointer (some ⟨g, 0, none⟩))
    (hg : v.heap[g]? = some (.cells cs t fr)) (hu : P.underlying ty = some d) (hd : (match d with | .struct _ | .array _ _ => true | _ => false) = true) (hi : (P.info? ty).map (·.size) = some cs.size) (hG : G i (.agg cs) v) : Rg.Does P G Q i o b v :=
  Rg.does_pure _ (by simp only [execOp, ho, hx, Instr.loadAt, Instr.sureAddr, Sem.run_bind, Sem.run_pure, Result.andThen_ok, run_loadVar_row v g t ty cs fr d hg hu hd hi]) hG
theorem does_eql_agg {P : Program} {G : Nat → Value → World → Prop} {Q : Exit → Act → World → Prop} {i : Nat} {o : Oper} {b : Act} {v : World} {x y : Operand} {ty t2 : TypeId} {xs ys : Array Value} {B : Bool} (ho : o.op = .binOp .eql ty x y t2) (hx : b.eval x = .agg xs) (hy : b.eval y = .agg ys)
    (hgd : P.eqGuardType P.depth ty = false) (hq : (binOp .eql ty (.agg xs) (.agg ys)).run P v = .ok (.bool B) v) (hG : G i (.bool B) v) : Rg.Does P G Q i o b v :=
  Rg.does_pure _ (by
    simp only [execOp, ho, hx, hy]
    simp [run_eqGuard_agg v .eql ty x y xs ys hgd, hq, Result.andThen]) hG
theorem does_slice_row {G : Nat → Value → World → Prop} {Q : Exit → Act → World → Prop} {i : Nat} {o : Oper} {b : Act} {v : World} {x : Operand} {g : Nat} {s : List UInt8} (ho : o.op = .slice 34 x none none none) (hx : b.eval x = .pointer (some ⟨g, 0, none⟩))
    (hg : v.heap[g]? = some (.cells (bytesV s).toArray 34 (0, 0))) (hS : s.length = 32) (hG : ∀ p, RowV s p v → G i p v) : Rg.Does Tryd.prog G Q i o b v := by
  have hr := row_typed hg (by rw [hS]; unfold maxLen; omega)
  refine Rg.does_pure (.slice (some ⟨g, 0, none⟩) s.length s.length) ?_ (hG _ ⟨_, _, rfl, hr⟩)
  simp only [execOp, ho, hx]
  rw [hS]
  have hu := syn_under
  obtain ⟨i0, hi, hz0, hz1, hz2⟩ := info_parts info_u8
  simp only [Option.map]
  go_simp
theorem does_slice_head {G : Nat → Value → World → Prop} {Q : Exit → Act → World → Prop} {i : Nat} {o : Oper} {b : Act} {v : World} {x y : Operand} {z : List UInt8} {n : Nat} (ho : o.op = .slice 22 x none (some y) none) (hx : RowV z (b.eval x) v) (hy : b.eval y = .int .i64 (n : Int)) (hn : n ≤ z.length)
    (hG : ∀ p, RowV (z.take n) p v → G i p v) : Rg.Does Tryd.prog G Q i o b v := by
  obtain ⟨o1, c1, e, h⟩ := hx
  have ht := h.take n
  have hl : (z.take n).length = n := by rw [List.length_take]; omega
  refine Rg.does_pure (.slice o1 n c1) ?_ (hG _ ⟨o1, c1, by rw [hl], ht⟩)
  have hle := h.le
  simp only [bytesV_length] at hle
  have hn0 : (0 : Int) ≤ (n : Int) := by omega
  have hn1 : (n : Int) ≤ (c1 : Int) := by omega
  have hn2 : n ≤ c1 := by omega
  simp only [execOp, ho, Option.map, e, hy]
  go_simp
/-- what each operation of the region has as its result -/
def CsyG (z s : List UInt8) (i : Nat) (x : Value) (v : World) : Prop :=
  match i with
  | 0 | 3 => (x) = .nilIface
  | 7 | 8 | 12 | 24 => (x) = .agg (bytesV s).toArray
  | 13 | 14 | 19 | 20 => (x) = .bool (s == zsyn)
  | 18 | 35 | 36 => RowV (z) (x) v
  | 25 | 28 => RowV (tr s) (x) v
  | 26 | 29 => (x) = .string ⟨(tr s).toArray⟩
  | 27 => RowV (s) (x) v
  | 33 | 39 => RowV (z.take (z.length - 32)) (x) v
  | 34 | 40 => (x) = .string ⟨(z.take (z.length - 32)).toArray⟩
  | 37 => (x) = .int .i64 ((z).length : Int)
  | 38 => (x) = .int .i64 ((z.length - 32 : Nat) : Int)
  | _ => (x) = .bool true
theorem CsyG.later {z s : List UInt8} (i : Nat) (x : Value) (v v' : World) (h : CsyG z s i x v) (hb : Below v.heap.size v v') : CsyG z s i x v' := by
  unfold CsyG at *
  split at h <;> first | exact h | exact h.later hb
set_option maxRecDepth 100000 in
set_option maxHeartbeats 4000000 in
theorem csy_main_of (Z : Array Value) (hZ : Z = (bytesV zsyn).toArray) (hzs1 : ∀ w, Sem.run Tryd.prog (zeroValue 35) w = .ok (.agg Z) w) (hzs2 : ∀ w, Sem.run Tryd.prog (zeroValue 34) w = .ok (.agg Z) w)
    (hbu : Tryd.prog.built 34 [] = some Z) (z : List UInt8) (o : Option Addr) (c : Nat) (w : World) (hP : RowIs w o (bytesV z) c) (h33 : 33 ≤ z.length ∧ z.length ≤ 255) :
    Calls Tryd.prog 4 #[.slice o z.length c] w fun e w' => e = .returned (.bool true) ∧ Below w.heap.size w w' := by
  have h1 := hP.le
  have h2 := hP.cap
  simp only [bytesV_length] at h1
  unfold maxLen at h2
  have HP := Lib.hid hP
  have HZ := Lib.hid hZ
  have hd4 : decide ((400 : Int) < (z.length : Int)) = false := decide_eq_false (by omega)
  have SZ : Hid (∀ w, Calls Tryd.prog 17 #[.int .i64 (z.length : Int)] w fun e w' => e = .returned (.bool true) ∧ w' = w) := Lib.hid fun w => by
    have := sized_any (z.length : Int) w
    rwa [show decide (33 ≤ (z.length : Int) ∧ (z.length : Int) ≤ 255) = true from decide_eq_true (by omega)] at this
  have hri : ∀ (o9 : Option Addr) (c9 : Nat) (v : World), RowIs v o9 (bytesV z) c9 → Calls Tryd.prog 15 #[.slice o9 z.length c9] v fun e v' => e = .returned (.bool (synL z == zsyn)) ∧ Below v.heap.size v v' := fun o9 c9 v h9 => right_any z o9 c9 v h9 h33
  have hof : ∀ v, RowIs v o (bytesV z) c → Calls Tryd.prog 16 #[.slice o z.length c] v fun e w' => e = .returned (.tuple #[.agg (bytesV (synL z)).toArray, .nilIface]) ∧ Below v.heap.size v w' := fun v hv => of_any z o c v hv h33
  have hrs : ∀ v, RowIs v o (bytesV z) c → Calls Tryd.prog 18 #[.slice o z.length c] v fun e w' => e = .returned (.agg (bytesV (synL z)).toArray) ∧ Below v.heap.size v w' := fun v hv => rsyn_any z o c v hv
  have hS : (synL z).length = 32 := by simp [synL]
  generalize synL z = s at *
  have hC1 := one_cell s
  have hC2 := csyn_size hS
  have hC3 := syn_size hS
  have HZS : Hid (Z.size = (bytesV s).toArray.size) := Lib.hid (by rw [hZ]; simp [zsyn, hS])
  have HQ : Hid (∀ v, (binOp .eql 34 (.agg (bytesV s).toArray) (.agg Z)).run Tryd.prog v = .ok (.bool (s == zsyn)) v) := Lib.hid fun v => by rw [hZ]; exact syn_eql s zsyn hS (by simp [zsyn]) v
  obtain ⟨C, hC⟩ : ∃ C, (bytesV s).toArray = C := ⟨_, rfl⟩
  rw [hC] at hof hrs hC1 hC2 hC3 HZS HQ
  have HC := Lib.hid hC
  have HC1 := Lib.hid hC1
  have HC2 := Lib.hid hC2
  have HC3 := Lib.hid hC3
  have HOF := Lib.hid hof
  have HRS := Lib.hid hrs
  have HRI := Lib.hid hri
  have HBU := Lib.hid hbu
  have HS := Lib.hid hS
  have hgd := syn_guard
  clear hP hZ hC hC1 hC2 hC3 hof hrs hri hS hbu
  go_enter Tryd.func4, Tryd.ntmps4
  go_wp2_with fail
  refine (alive3_any _).mono ?_; rintro e w1 ⟨rfl, hb⟩
  have HB1 := Lib.hid hb
  clear hb
  go_wp2_with fail
  refine (HOF.out w1 (HP.out.later HB1.out)).mono ?_; rintro e w2 ⟨rfl, hb⟩
  have HB2 := Lib.hid (Kit.step HB1.out hb)
  have HG : Hid ((w2.alloc (.cells Z 35)).heap[w2.heap.size]? = some (.cells Z 35 (0, 0))) := Lib.hid (World.alloc_heap_new _ _)
  obtain ⟨w3, hw3⟩ : ∃ w3, (w2.alloc (.cells Z 35)).setRow w2.heap.size C = w3 := ⟨_, rfl⟩
  have HG3 : Hid (w3.heap[w2.heap.size]? = some (.cells C 35 (0, 0))) := Lib.hid (by rw [← hw3]; exact setRow_heap _ _ _ _ _ _ HG.out)
  have HB3 : Hid (Below w.heap.size w w3) := Lib.hid (by rw [← hw3]; exact (HB2.out.alloc HB2.out.size _).trans (below_setRow HB2.out.size))
  have HW3 := Lib.hid hw3
  have HL3 : Hid (w2.heap.size < w3.heap.size) := Lib.hid (Array.getElem?_eq_some_iff.1 HG3.out).1
  clear hb hw3
  go_wp2_with (refine wpList_store_row rfl 35 (.tmp 3) (.tmp 17) rfl w2.heap.size C rfl rfl 35 Z HG.out HC2.out HZS.out HC1.out ?_; rw [HW3.out])
  refine (data_any z o c w3 (HP.out.later HB3.out) h33).mono ?_; rintro e w4 ⟨y, rfl, hy, hb⟩
  have HB4 := Lib.hid (Kit.step HB3.out hb)
  have HG4 : Hid (w4.heap[w2.heap.size]? = some (.cells C 35 (0, 0))) := Lib.hid (by rw [hb.block w2.heap.size HL3.out]; exact HG3.out)
  have HY4 := Lib.hid hy
  clear hb hy
  go_wp2_with fail
  refine (SZ.out _).mono ?_; rintro e w5 ⟨rfl, rfl⟩
  go_wp2_with fail
  refine (HRS.out w5 (HP.out.later HB4.out)).mono ?_; rintro e w6 ⟨rfl, hb⟩
  have HB6 := Lib.hid (Kit.step HB4.out hb)
  have HL5 : Hid (w2.heap.size < w5.heap.size) := Lib.hid (Array.getElem?_eq_some_iff.1 HG4.out).1
  have HG6 : Hid (w6.heap[w2.heap.size]? = some (.cells C 35 (0, 0))) := Lib.hid (by rw [hb.block w2.heap.size HL5.out]; exact HG4.out)
  have HY6 := Lib.hid (HY4.out.later hb)
  have HGa : Hid ((w6.alloc (.cells Z 34)).heap[w6.heap.size]? = some (.cells Z 34 (0, 0))) := Lib.hid (World.alloc_heap_new _ _)
  obtain ⟨w7, hw7⟩ : ∃ w7, (w6.alloc (.cells Z 34)).setRow w6.heap.size C = w7 := ⟨_, rfl⟩
  have hb7 : Below w6.heap.size w6 w7 := by rw [← hw7]; exact ((Below.refl _ _).alloc (Nat.le_refl _) _).trans (below_setRow (Nat.le_refl _))
  have HG7 : Hid (w7.heap[w6.heap.size]? = some (.cells C 34 (0, 0))) := Lib.hid (by rw [← hw7]; exact setRow_heap _ _ _ _ _ _ HGa.out)
  have HL6 : Hid (w2.heap.size < w6.heap.size) := Lib.hid (Array.getElem?_eq_some_iff.1 HG6.out).1
  have HG37 : Hid (w7.heap[w2.heap.size]? = some (.cells C 35 (0, 0))) := Lib.hid (by rw [hb7.block w2.heap.size HL6.out]; exact HG6.out)
  have HB7 := Lib.hid (Kit.step HB6.out hb7)
  have HY7 := Lib.hid (HY6.out.later hb7)
  have HW7 := Lib.hid hw7
  clear hb hw7 hb7
  have hq := HQ.out
  go_wp2_with (first | (refine wpList_store_row rfl 34 (.tmp 7) (.tmp 52) rfl w6.heap.size C rfl rfl 34 Z HGa.out HC3.out HZS.out HC1.out ?_; rw [HW7.out]) | refine wpList_load_row rfl 34 (.tmp 7) rfl w6.heap.size rfl 34 C (0, 0) _ HG7.out syn_under rfl HC3.out ?_ | refine build_syn rfl 34 rfl Z HBU.out ?_)
  have hz : RowV z (.slice o z.length c) w7 := ⟨_, _, rfl, HP.out.later HB7.out⟩
  have hd5 := HY7.out
  have hS := HS.out
  have hri := HRI.out
  have hz33 := h33
  have hg3 : ∀ v, Below w7.heap.size w7 v → v.heap[w2.heap.size]? = some (.cells (bytesV s).toArray 35 (0, 0)) := fun v hb => by rw [HC.out, hb.block w2.heap.size (Array.getElem?_eq_some_iff.1 HG37.out).1]; exact HG37.out
  have hg7 : ∀ v, Below w7.heap.size w7 v → v.heap[w6.heap.size]? = some (.cells (bytesV s).toArray 34 (0, 0)) := fun v hb => by rw [HC.out, hb.block w6.heap.size (Array.getElem?_eq_some_iff.1 HG7.out).1]; exact HG7.out
  refine Rg.region_grow (by kernel_rfl) (CsyG z s) (by kernel_rfl) CsyG.later ?gd ?step ?fin
  case gd =>
    intro i op k t ho hg x v hG
    have hi := (Array.getElem?_eq_some_iff.1 ho).1
    match i, hi with
    | 0, _ =>
      obtain rfl := Option.some.inj ho
      cases hg
    | 1, _ =>
      obtain rfl := Option.some.inj ho
      cases hg
    | 2, _ =>
      obtain rfl := Option.some.inj ho
      cases hg
    | 3, _ =>
      obtain rfl := Option.some.inj ho
      obtain ⟨rfl, rfl⟩ : 2 = k ∧ true = t := by simpa using hg
      exact hG
    | 4, _ =>
      obtain rfl := Option.some.inj ho
      obtain ⟨rfl, rfl⟩ : 2 = k ∧ true = t := by simpa using hg
      exact hG
    | 5, _ =>
      obtain rfl := Option.some.inj ho
      cases hg
    | 6, _ =>
      obtain rfl := Option.some.inj ho
      cases hg
    | 7, _ =>
      obtain rfl := Option.some.inj ho
      obtain ⟨rfl, rfl⟩ : 6 = k ∧ true = t := by simpa using hg
      exact hG
    | 8, _ =>
      obtain rfl := Option.some.inj ho
      obtain ⟨rfl, rfl⟩ : 6 = k ∧ true = t := by simpa using hg
      exact hG
    | 9, _ =>
      obtain rfl := Option.some.inj ho
      obtain ⟨rfl, rfl⟩ : 6 = k ∧ true = t := by simpa using hg
      exact hG
    | 10, _ =>
      obtain rfl := Option.some.inj ho
      cases hg
    | 11, _ =>
      obtain rfl := Option.some.inj ho
      cases hg
    | 12, _ =>
      obtain rfl := Option.some.inj ho
      obtain ⟨rfl, rfl⟩ : 11 = k ∧ true = t := by simpa using hg
      exact hG
    | 13, _ =>
      obtain rfl := Option.some.inj ho
      obtain ⟨rfl, rfl⟩ : 11 = k ∧ true = t := by simpa using hg
      exact hG
    | 14, _ =>
      obtain rfl := Option.some.inj ho
      obtain ⟨rfl, rfl⟩ : 11 = k ∧ true = t := by simpa using hg
      exact hG
    | 15, _ =>
      obtain rfl := Option.some.inj ho
      obtain ⟨rfl, rfl⟩ : 11 = k ∧ true = t := by simpa using hg
      exact hG
    | 16, _ =>
      obtain rfl := Option.some.inj ho
      cases hg
    | 17, _ =>
      obtain rfl := Option.some.inj ho
      cases hg
    | 18, _ =>
      obtain rfl := Option.some.inj ho
      obtain ⟨rfl, rfl⟩ : 17 = k ∧ true = t := by simpa using hg
      exact hG
    | 19, _ =>
      obtain rfl := Option.some.inj ho
      obtain ⟨rfl, rfl⟩ : 17 = k ∧ true = t := by simpa using hg
      exact hG
    | 20, _ =>
      obtain rfl := Option.some.inj ho
      obtain ⟨rfl, rfl⟩ : 17 = k ∧ true = t := by simpa using hg
      exact hG
    | 21, _ =>
      obtain rfl := Option.some.inj ho
      obtain ⟨rfl, rfl⟩ : 17 = k ∧ true = t := by simpa using hg
      exact hG
    | 22, _ =>
      obtain rfl := Option.some.inj ho
      cases hg
    | 23, _ =>
      obtain rfl := Option.some.inj ho
      cases hg
    | 24, _ =>
      obtain rfl := Option.some.inj ho
      obtain ⟨rfl, rfl⟩ : 23 = k ∧ true = t := by simpa using hg
      exact hG
    | 25, _ =>
      obtain rfl := Option.some.inj ho
      obtain ⟨rfl, rfl⟩ : 23 = k ∧ true = t := by simpa using hg
      exact hG
    | 26, _ =>
      obtain rfl := Option.some.inj ho
      obtain ⟨rfl, rfl⟩ : 23 = k ∧ true = t := by simpa using hg
      exact hG
    | 27, _ =>
      obtain rfl := Option.some.inj ho
      obtain ⟨rfl, rfl⟩ : 23 = k ∧ true = t := by simpa using hg
      exact hG
    | 28, _ =>
      obtain rfl := Option.some.inj ho
      obtain ⟨rfl, rfl⟩ : 23 = k ∧ true = t := by simpa using hg
      exact hG
    | 29, _ =>
      obtain rfl := Option.some.inj ho
      obtain ⟨rfl, rfl⟩ : 23 = k ∧ true = t := by simpa using hg
      exact hG
    | 30, _ =>
      obtain rfl := Option.some.inj ho
      obtain ⟨rfl, rfl⟩ : 23 = k ∧ true = t := by simpa using hg
      exact hG
    | 31, _ =>
      obtain rfl := Option.some.inj ho
      cases hg
    | 32, _ =>
      obtain rfl := Option.some.inj ho
      cases hg
    | 33, _ =>
      obtain rfl := Option.some.inj ho
      obtain ⟨rfl, rfl⟩ : 32 = k ∧ true = t := by simpa using hg
      exact hG
    | 34, _ =>
      obtain rfl := Option.some.inj ho
      obtain ⟨rfl, rfl⟩ : 32 = k ∧ true = t := by simpa using hg
      exact hG
    | 35, _ =>
      obtain rfl := Option.some.inj ho
      obtain ⟨rfl, rfl⟩ : 32 = k ∧ true = t := by simpa using hg
      exact hG
    | 36, _ =>
      obtain rfl := Option.some.inj ho
      obtain ⟨rfl, rfl⟩ : 32 = k ∧ true = t := by simpa using hg
      exact hG
    | 37, _ =>
      obtain rfl := Option.some.inj ho
      obtain ⟨rfl, rfl⟩ : 32 = k ∧ true = t := by simpa using hg
      exact hG
    | 38, _ =>
      obtain rfl := Option.some.inj ho
      obtain ⟨rfl, rfl⟩ : 32 = k ∧ true = t := by simpa using hg
      exact hG
    | 39, _ =>
      obtain rfl := Option.some.inj ho
      obtain ⟨rfl, rfl⟩ : 32 = k ∧ true = t := by simpa using hg
      exact hG
    | 40, _ =>
      obtain rfl := Option.some.inj ho
      obtain ⟨rfl, rfl⟩ : 32 = k ∧ true = t := by simpa using hg
      exact hG
    | 41, _ =>
      obtain rfl := Option.some.inj ho
      obtain ⟨rfl, rfl⟩ : 32 = k ∧ true = t := by simpa using hg
      exact hG
    | 42, _ =>
      obtain rfl := Option.some.inj ho
      cases hg
    | 43, _ =>
      obtain rfl := Option.some.inj ho
      cases hg
    | n + 44, h => exact absurd h (by simp)
  case step =>
    intro i op b v ho hb hrest hdep
    have r4 : b.eval (.tmp 4) = .nilIface := hrest 4 (Rg.free_spec (by kernel_rfl))
    have r6 : b.eval (.tmp 6) = .nilIface := hrest 6 (Rg.free_spec (by kernel_rfl))
    have r3 : b.eval (.tmp 3) = .pointer (some ⟨w2.heap.size, 0, none⟩) := hrest 3 (Rg.free_spec (by kernel_rfl))
    have r7 : b.eval (.tmp 7) = .pointer (some ⟨w6.heap.size, 0, none⟩) := hrest 7 (Rg.free_spec (by kernel_rfl))
    have r8 : b.eval (.tmp 8) = .bool (s == zsyn) := hrest 8 (Rg.free_spec (by kernel_rfl))
    have r0 : b.eval (.tmp 0) = .slice o z.length c := hrest 0 (Rg.free_spec (by kernel_rfl))
    have r5 : b.eval (.tmp 5) = y := hrest 5 (Rg.free_spec (by kernel_rfl))
    have hi := (Array.getElem?_eq_some_iff.1 ho).1
    match i, hi with
    | 0, _ =>
      obtain rfl := Option.some.inj ho
      have d1 : b.eval (.tmp 4) = .nilIface := r4
      exact Rg.does_move rfl d1
    | 1, _ =>
      obtain rfl := Option.some.inj ho
      have d1 : (b.eval (.tmp 56)) = .nilIface := hdep ⟨0, .data⟩ (by simp) rfl _ _ rfl rfl
      have f1 : b.tmps[56]?.getD undef = _ := (show _ = b.eval (.tmp 56) by simp [Act.eval]).trans d1
      refine Rg.does_pure (.bool true) ?_ rfl
      simp only [execOp]
      go_simp
    | 2, _ =>
      obtain rfl := Option.some.inj ho
      have d1 : (b.eval (.tmp 57)) = .bool true := hdep ⟨1, .data⟩ (by simp) rfl _ _ rfl rfl
      exact Rg.does_move rfl d1
    | 3, _ =>
      obtain rfl := Option.some.inj ho
      have d1 : b.eval (.tmp 6) = .nilIface := r6
      exact Rg.does_move rfl d1
    | 4, _ =>
      obtain rfl := Option.some.inj ho
      have d1 : (b.eval (.tmp 59)) = .nilIface := hdep ⟨3, .data⟩ (by simp) rfl _ _ rfl rfl
      have f1 : b.tmps[59]?.getD undef = _ := (show _ = b.eval (.tmp 59) by simp [Act.eval]).trans d1
      refine Rg.does_pure (.bool true) ?_ rfl
      simp only [execOp]
      go_simp
    | 5, _ =>
      obtain rfl := Option.some.inj ho
      have d1 : (b.eval (.tmp 58)) = .bool true := hdep ⟨2, .data⟩ (by simp) rfl _ _ rfl rfl
      have d2 : (b.eval (.tmp 60)) = .bool true := hdep ⟨4, .data⟩ (by simp) rfl _ _ rfl rfl
      exact Rg.does_pick rfl d1 d2
    | 6, _ =>
      obtain rfl := Option.some.inj ho
      have d1 : (b.eval (.tmp 61)) = .bool true := hdep ⟨5, .data⟩ (by simp) rfl _ _ rfl rfl
      exact Rg.does_move rfl d1
    | 7, _ =>
      obtain rfl := Option.some.inj ho
      exact does_load_row rfl r3 (hg3 v hb) csyn_under rfl (csyn_size hS) rfl
    | 8, _ =>
      obtain rfl := Option.some.inj ho
      exact does_load_row rfl r7 (hg7 v hb) syn_under rfl (syn_size hS) rfl
    | 9, _ =>
      obtain rfl := Option.some.inj ho
      have d1 : b.eval (.tmp 63) = .agg (bytesV s).toArray := hdep ⟨7, .data⟩ (by simp) rfl _ _ rfl rfl
      have d2 : b.eval (.tmp 64) = .agg (bytesV s).toArray := hdep ⟨8, .data⟩ (by simp) rfl _ _ rfl rfl
      exact does_eql_agg rfl d1 d2 syn_guard (by rw [syn_eql s s hS hS]; simp) rfl
    | 10, _ =>
      obtain rfl := Option.some.inj ho
      have d1 : (b.eval (.tmp 62)) = .bool true := hdep ⟨6, .data⟩ (by simp) rfl _ _ rfl rfl
      have d2 : (b.eval (.tmp 65)) = .bool true := hdep ⟨9, .data⟩ (by simp) rfl _ _ rfl rfl
      exact Rg.does_pick rfl d1 d2
    | 11, _ =>
      obtain rfl := Option.some.inj ho
      have d1 : (b.eval (.tmp 66)) = .bool true := hdep ⟨10, .data⟩ (by simp) rfl _ _ rfl rfl
      exact Rg.does_move rfl d1
    | 12, _ =>
      obtain rfl := Option.some.inj ho
      exact does_load_row rfl r3 (hg3 v hb) csyn_under rfl (csyn_size hS) rfl
    | 13, _ =>
      obtain rfl := Option.some.inj ho
      have d1 : (b.eval (.tmp 68)) = .agg (bytesV s).toArray := hdep ⟨12, .data⟩ (by simp) rfl _ _ rfl rfl
      exact Rg.does_fn rfl (enters_of Tryd.func19 (by kernel_rfl) rfl) (args := #[b.eval (.tmp 68)]) (by simp) (by rw [d1]; exact (quiet_any s hS v).mono fun e v' ⟨h1, h2⟩ => ⟨_, h1, rfl, h2⟩)
    | 14, _ =>
      obtain rfl := Option.some.inj ho
      have d1 : b.eval (.tmp 8) = .bool (s == zsyn) := r8
      exact Rg.does_move rfl d1
    | 15, _ =>
      obtain rfl := Option.some.inj ho
      have d1 : (b.eval (.tmp 69)) = .bool (s == zsyn) := hdep ⟨13, .data⟩ (by simp) rfl _ _ rfl rfl
      have d2 : (b.eval (.tmp 70)) = .bool (s == zsyn) := hdep ⟨14, .data⟩ (by simp) rfl _ _ rfl rfl
      have f1 : b.tmps[69]?.getD undef = _ := (show _ = b.eval (.tmp 69) by simp [Act.eval]).trans d1
      have f2 : b.tmps[70]?.getD undef = _ := (show _ = b.eval (.tmp 70) by simp [Act.eval]).trans d2
      refine Rg.does_pure (.bool true) ?_ rfl
      generalize (s == zsyn) = B at *
      simp only [execOp]
      go_simp
    | 16, _ =>
      obtain rfl := Option.some.inj ho
      have d1 : (b.eval (.tmp 67)) = .bool true := hdep ⟨11, .data⟩ (by simp) rfl _ _ rfl rfl
      have d2 : (b.eval (.tmp 71)) = .bool true := hdep ⟨15, .data⟩ (by simp) rfl _ _ rfl rfl
      exact Rg.does_pick rfl d1 d2
    | 17, _ =>
      obtain rfl := Option.some.inj ho
      have d1 : (b.eval (.tmp 72)) = .bool true := hdep ⟨16, .data⟩ (by simp) rfl _ _ rfl rfl
      exact Rg.does_move rfl d1
    | 18, _ =>
      obtain rfl := Option.some.inj ho
      have d1 : RowV (z) (b.eval (.tmp 0)) v := by rw [r0]; exact hz.later hb
      exact Rg.does_move rfl d1
    | 19, _ =>
      obtain rfl := Option.some.inj ho
      have d1 : RowV (z) (b.eval (.tmp 74)) v := hdep ⟨18, .data⟩ (by simp) rfl _ _ rfl rfl
      exact Rg.does_fn rfl (enters_of Tryd.func15 (by kernel_rfl) rfl) (args := #[b.eval (.tmp 74)]) (by simp) (by obtain ⟨o9, c9, e9, h9⟩ := d1; rw [e9]; exact (hri o9 c9 v h9).mono fun e v' ⟨h1, h2⟩ => ⟨_, h1, rfl, h2⟩)
    | 20, _ =>
      obtain rfl := Option.some.inj ho
      have d1 : b.eval (.tmp 8) = .bool (s == zsyn) := r8
      exact Rg.does_move rfl d1
    | 21, _ =>
      obtain rfl := Option.some.inj ho
      have d1 : (b.eval (.tmp 75)) = .bool (s == zsyn) := hdep ⟨19, .data⟩ (by simp) rfl _ _ rfl rfl
      have d2 : (b.eval (.tmp 76)) = .bool (s == zsyn) := hdep ⟨20, .data⟩ (by simp) rfl _ _ rfl rfl
      have f1 : b.tmps[75]?.getD undef = _ := (show _ = b.eval (.tmp 75) by simp [Act.eval]).trans d1
      have f2 : b.tmps[76]?.getD undef = _ := (show _ = b.eval (.tmp 76) by simp [Act.eval]).trans d2
      refine Rg.does_pure (.bool true) ?_ rfl
      generalize (s == zsyn) = B at *
      simp only [execOp]
      go_simp
    | 22, _ =>
      obtain rfl := Option.some.inj ho
      have d1 : (b.eval (.tmp 73)) = .bool true := hdep ⟨17, .data⟩ (by simp) rfl _ _ rfl rfl
      have d2 : (b.eval (.tmp 77)) = .bool true := hdep ⟨21, .data⟩ (by simp) rfl _ _ rfl rfl
      exact Rg.does_pick rfl d1 d2
    | 23, _ =>
      obtain rfl := Option.some.inj ho
      have d1 : (b.eval (.tmp 78)) = .bool true := hdep ⟨22, .data⟩ (by simp) rfl _ _ rfl rfl
      exact Rg.does_move rfl d1
    | 24, _ =>
      obtain rfl := Option.some.inj ho
      exact does_load_row rfl r3 (hg3 v hb) csyn_under rfl (csyn_size hS) rfl
    | 25, _ =>
      obtain rfl := Option.some.inj ho
      have d1 : (b.eval (.tmp 80)) = .agg (bytesV s).toArray := hdep ⟨24, .data⟩ (by simp) rfl _ _ rfl rfl
      exact Rg.does_fn rfl (enters_of Tryd.func20 (by kernel_rfl) rfl) (args := #[b.eval (.tmp 80)]) (by simp) (by rw [d1]; exact spoly_any s hS v)
    | 26, _ =>
      obtain rfl := Option.some.inj ho
      have d1 : RowV (tr s) (b.eval (.tmp 81)) v := hdep ⟨25, .data⟩ (by simp) rfl _ _ rfl rfl
      exact Rg.does_conv rfl (conv_rv d1) (rfl)
    | 27, _ =>
      obtain rfl := Option.some.inj ho
      exact does_slice_row rfl r7 (hg7 v hb) hS fun p h => h
    | 28, _ =>
      obtain rfl := Option.some.inj ho
      have d1 : RowV (s) (b.eval (.tmp 83)) v := hdep ⟨27, .data⟩ (by simp) rfl _ _ rfl rfl
      exact Rg.does_fn rfl (enters_of Tryd.func21 (by kernel_rfl) rfl) (args := #[b.eval (.tmp 83)]) (by simp) (rtrim_rv d1 (by omega))
    | 29, _ =>
      obtain rfl := Option.some.inj ho
      have d1 : RowV (tr s) (b.eval (.tmp 84)) v := hdep ⟨28, .data⟩ (by simp) rfl _ _ rfl rfl
      exact Rg.does_conv rfl (conv_rv d1) (rfl)
    | 30, _ =>
      obtain rfl := Option.some.inj ho
      have d1 : (b.eval (.tmp 82)) = .string ⟨(tr s).toArray⟩ := hdep ⟨26, .data⟩ (by simp) rfl _ _ rfl rfl
      have d2 : (b.eval (.tmp 85)) = .string ⟨(tr s).toArray⟩ := hdep ⟨29, .data⟩ (by simp) rfl _ _ rfl rfl
      have f1 : b.tmps[82]?.getD undef = _ := (show _ = b.eval (.tmp 82) by simp [Act.eval]).trans d1
      have f2 : b.tmps[85]?.getD undef = _ := (show _ = b.eval (.tmp 85) by simp [Act.eval]).trans d2
      refine Rg.does_pure (.bool true) ?_ rfl
      have hu := Tryd.underlying9
      simp only [execOp]
      go_simp
    | 31, _ =>
      obtain rfl := Option.some.inj ho
      have d1 : (b.eval (.tmp 79)) = .bool true := hdep ⟨23, .data⟩ (by simp) rfl _ _ rfl rfl
      have d2 : (b.eval (.tmp 86)) = .bool true := hdep ⟨30, .data⟩ (by simp) rfl _ _ rfl rfl
      exact Rg.does_pick rfl d1 d2
    | 32, _ =>
      obtain rfl := Option.some.inj ho
      have d1 : (b.eval (.tmp 87)) = .bool true := hdep ⟨31, .data⟩ (by simp) rfl _ _ rfl rfl
      exact Rg.does_move rfl d1
    | 33, _ =>
      obtain rfl := Option.some.inj ho
      have d1 : RowV (z.take (z.length - 32)) (b.eval (.tmp 5)) v := by rw [r5]; exact hd5.later hb
      exact Rg.does_move rfl d1
    | 34, _ =>
      obtain rfl := Option.some.inj ho
      have d1 : RowV (z.take (z.length - 32)) (b.eval (.tmp 89)) v := hdep ⟨33, .data⟩ (by simp) rfl _ _ rfl rfl
      exact Rg.does_conv rfl (conv_rv d1) (rfl)
    | 35, _ =>
      obtain rfl := Option.some.inj ho
      have d1 : RowV (z) (b.eval (.tmp 0)) v := by rw [r0]; exact hz.later hb
      exact Rg.does_move rfl d1
    | 36, _ =>
      obtain rfl := Option.some.inj ho
      have d1 : RowV (z) (b.eval (.tmp 0)) v := by rw [r0]; exact hz.later hb
      exact Rg.does_move rfl d1
    | 37, _ =>
      obtain rfl := Option.some.inj ho
      have d1 : RowV (z) (b.eval (.tmp 92)) v := hdep ⟨36, .data⟩ (by simp) rfl _ _ rfl rfl
      obtain ⟨o3, c3, e3, hr3⟩ := d1
      have f1 : b.tmps[92]?.getD undef = _ := (show _ = b.eval (.tmp 92) by simp [Act.eval]).trans e3
      refine Rg.does_pure (.int .i64 ((z).length : Int)) ?_ rfl
      simp only [execOp]
      go_simp
    | 38, _ =>
      obtain rfl := Option.some.inj ho
      have d1 : (b.eval (.tmp 93)) = .int .i64 ((z).length : Int) := hdep ⟨37, .data⟩ (by simp) rfl _ _ rfl rfl
      have f1 : b.tmps[93]?.getD undef = _ := (show _ = b.eval (.tmp 93) by simp [Act.eval]).trans d1
      refine Rg.does_pure (.int .i64 ((z.length - 32 : Nat) : Int)) ?_ rfl
      have hl33 := hz33.1
      have hl255 := hz33.2
      have hwr : IntKind.i64.wrap ((z.length : Int) - 32) = (z.length : Int) - 32 := by rw [IntKind.wrap_i64]; omega
      rw [show ((z.length - 32 : Nat) : Int) = (z.length : Int) - 32 by omega]
      simp only [execOp]
      go_simp
    | 39, _ =>
      obtain rfl := Option.some.inj ho
      have d1 : RowV z (b.eval (.tmp 91)) v := hdep ⟨35, .data⟩ (by simp) rfl _ _ rfl rfl
      have d2 : b.eval (.tmp 94) = .int .i64 ((z.length - 32 : Nat) : Int) := hdep ⟨38, .data⟩ (by simp) rfl _ _ rfl rfl
      exact does_slice_head rfl d1 d2 (by omega) fun p h => h
    | 40, _ =>
      obtain rfl := Option.some.inj ho
      have d1 : RowV (z.take (z.length - 32)) (b.eval (.tmp 95)) v := hdep ⟨39, .data⟩ (by simp) rfl _ _ rfl rfl
      exact Rg.does_conv rfl (conv_rv d1) (rfl)
    | 41, _ =>
      obtain rfl := Option.some.inj ho
      have d1 : (b.eval (.tmp 90)) = .string ⟨(z.take (z.length - 32)).toArray⟩ := hdep ⟨34, .data⟩ (by simp) rfl _ _ rfl rfl
      have d2 : (b.eval (.tmp 96)) = .string ⟨(z.take (z.length - 32)).toArray⟩ := hdep ⟨40, .data⟩ (by simp) rfl _ _ rfl rfl
      have f1 : b.tmps[90]?.getD undef = _ := (show _ = b.eval (.tmp 90) by simp [Act.eval]).trans d1
      have f2 : b.tmps[96]?.getD undef = _ := (show _ = b.eval (.tmp 96) by simp [Act.eval]).trans d2
      refine Rg.does_pure (.bool true) ?_ rfl
      have hu := Tryd.underlying9
      simp only [execOp]
      go_simp
    | 42, _ =>
      obtain rfl := Option.some.inj ho
      have d1 : (b.eval (.tmp 88)) = .bool true := hdep ⟨32, .data⟩ (by simp) rfl _ _ rfl rfl
      have d2 : (b.eval (.tmp 97)) = .bool true := hdep ⟨41, .data⟩ (by simp) rfl _ _ rfl rfl
      exact Rg.does_pick rfl d1 d2
    | 43, _ =>
      obtain rfl := Option.some.inj ho
      have d1 : (b.eval (.tmp 98)) = .bool true := hdep ⟨42, .data⟩ (by simp) rfl _ _ rfl rfl
      exact Rg.does_assign rfl d1
    | n + 44, h => exact absurd h (by simp)
  case fin =>
    intro b v2 hb2 hs hd hrest hall
    have h4 : b.tmps.getD 2 undef = .bool true := hall 43 _ 2 rfl rfl
    have HB := Lib.hid (Kit.step HB7.out hb2)
    go_wp2
    refine bodyPost_ret (results_tmp rfl _ _ _) hd ?_
    exact ⟨by rw [h4], HB.out⟩
set_option maxRecDepth 100000 in
set_option maxHeartbeats 4000000 in
theorem csy_size_of (Z : Array Value) (hzs1 : ∀ w, Sem.run Tryd.prog (zeroValue 35) w = .ok (.agg Z) w) (hC1 : Z.all (·.oneCell') = true) (hC2 : (Tryd.prog.info? 35).map (·.size) = some Z.size)
    (hbu : Tryd.prog.built 35 [] = some Z) (hq : ∀ v, (binOp .eql 35 (.agg Z) (.agg Z)).run Tryd.prog v = .ok (.bool true) v) (m c : Nat) (o : Option Addr) (w : World) (A : Nat → Addr) (hE : Er.Errs w A)
    (hof : ∀ v, Er.Errs v A → Calls Tryd.prog 16 #[.slice o m c] v fun e w' => e = .returned (.tuple #[.agg Z, .iface 92 (.pointer (some (A 7)))]) ∧ Below v.heap.size v w') (h33 : ¬ (33 ≤ m ∧ m ≤ 255)) (h4 : m ≤ 400) :
    Calls Tryd.prog 4 #[.slice o m c] w fun e w' => e = .returned (.bool true) ∧ Below w.heap.size w w' := by
  have hd4 : decide ((400 : Int) < (m : Int)) = false := decide_eq_false (by omega)
  have SZ : Hid (∀ w, Calls Tryd.prog 17 #[.int .i64 (m : Int)] w fun e w' => e = .returned (.bool false) ∧ w' = w) := Lib.hid fun w => by
    have := sized_any (m : Int) w
    rwa [show decide (33 ≤ (m : Int) ∧ (m : Int) ≤ 255) = false from decide_eq_false (by omega)] at this
  have HOF := Lib.hid hof
  have HE := Lib.hid hE
  have HC1 := Lib.hid hC1
  have HC2 := Lib.hid hC2
  have HBU := Lib.hid hbu
  have HN := Lib.hid h33
  have hgd := csyn_guard
  clear hof hE hC1 hC2 hbu h33
  go_enter Tryd.func4, Tryd.ntmps4
  go_wp2_with fail
  refine (alive3_any _).mono ?_; rintro e w1 ⟨rfl, hb⟩
  have HB1 := Lib.hid hb
  clear hb
  go_wp2_with fail
  refine (HOF.out w1 (HE.out.later HB1.out)).mono ?_; rintro e w2 ⟨rfl, hb⟩
  have HB2 := Lib.hid (Kit.step HB1.out hb)
  have HG : Hid ((w2.alloc (.cells Z 35)).heap[w2.heap.size]? = some (.cells Z 35 (0, 0))) := Lib.hid (World.alloc_heap_new _ _)
  obtain ⟨w3, hw3⟩ : ∃ w3, (w2.alloc (.cells Z 35)).setRow w2.heap.size Z = w3 := ⟨_, rfl⟩
  have HG3 : Hid (w3.heap[w2.heap.size]? = some (.cells Z 35 (0, 0))) := Lib.hid (by rw [← hw3]; exact setRow_heap _ _ _ _ _ _ HG.out)
  have HB3 : Hid (Below w.heap.size w w3) := Lib.hid (by rw [← hw3]; exact (HB2.out.alloc HB2.out.size _).trans (below_setRow HB2.out.size))
  have HW3 := Lib.hid hw3
  have HL3 : Hid (w2.heap.size < w3.heap.size) := Lib.hid (Array.getElem?_eq_some_iff.1 HG3.out).1
  clear hb hw3
  go_wp2_with (refine wpList_store_row rfl 35 (.tmp 3) (.tmp 17) rfl w2.heap.size Z rfl rfl 35 Z HG.out HC2.out rfl HC1.out ?_; rw [HW3.out])
  refine (data_size m c o w3 A (HE.out.later HB3.out) HN.out (by omega)).mono ?_; rintro e w4 ⟨rfl, hb⟩
  have HB4 := Lib.hid (Kit.step HB3.out hb)
  have HG4 : Hid (w4.heap[w2.heap.size]? = some (.cells Z 35 (0, 0))) := Lib.hid (by rw [hb.block w2.heap.size HL3.out]; exact HG3.out)
  clear hb
  go_wp2_with fail
  refine (SZ.out _).mono ?_; rintro e w5 ⟨rfl, rfl⟩
  go_wp2_with (first | refine wpList_load_row rfl 35 (.tmp 3) rfl w2.heap.size rfl 35 Z (0, 0) _ HG4.out csyn_under rfl HC2.out ?_ | refine build_syn rfl 35 rfl Z HBU.out ?_)
  refine (Er.num_of A 7 (by omega) w5 (HE.out.later HB4.out)).mono ?_; rintro e w6 ⟨rfl, hb⟩
  have HB6 := Lib.hid (Kit.step HB4.out hb)
  clear hb
  go_wp2_with fail
  refine (Er.num_of A 7 (by omega) w6 (HE.out.later HB6.out)).mono ?_; rintro e w7 ⟨rfl, hb⟩
  have HB7 := Lib.hid (Kit.step HB6.out hb)
  clear hb
  go_wp2_with fail
  refine (right_size m c o w7 A (HE.out.later HB7.out) HN.out (by omega)).mono ?_; rintro e w8 ⟨rfl, hb⟩
  have HB8 := Lib.hid (Kit.step HB7.out hb)
  clear hb
  go_wp2_with fail
  go_ret
  exact ⟨rfl, HB8.out⟩
theorem csy_long (m c : Nat) (o : Option Addr) (w : World) (hl : 400 < m) (h1 : m ≤ 9223372036854775807) :
    Calls Tryd.prog 4 #[.slice o m c] w fun e w' => e = .returned (.bool true) ∧ Below w.heap.size w w' := by
  have hd4 : decide ((400 : Int) < (m : Int)) = true := decide_eq_true (by omega)
  go_enter Tryd.func4, Tryd.ntmps4
  go_wp2_with fail
  refine (alive3_any _).mono ?_; rintro e w1 ⟨rfl, hb⟩
  have HB1 := Lib.hid hb
  clear hb
  go_wp2_with fail
  go_ret
  exact ⟨rfl, HB1.out⟩
theorem csy_walk (z : List UInt8) (o : Option Addr) (c : Nat) (w : World) (A : Nat → Addr) (hE : Er.Errs w A) (hP : RowIs w o (bytesV z) c) :
    Calls Tryd.prog 4 #[.slice o z.length c] w fun e w' => e = .returned (.bool true) ∧ Below w.heap.size w w' := by
  have h1 := hP.le
  have h2 := hP.cap
  simp only [bytesV_length] at h1
  unfold maxLen at h2
  by_cases h4 : 400 < z.length
  · exact csy_long z.length c o w h4 (by omega)
  · by_cases h : 33 ≤ z.length ∧ z.length ≤ 255
    · exact csy_main_of _ rfl czero_syn zero_syn syn_built z o c w hP h
    · exact csy_size_of _ czero_syn (one_cell zsyn) (csyn_size (by simp [zsyn])) csyn_built (fun v => by rw [csyn_eql zsyn zsyn (by simp [zsyn]) (by simp [zsyn])]; simp) z.length c o w A hE (fun v hv => of_size z.length c o v A hv h (by omega)) h (by omega)
end Go.Proofs.YtkkmgjjafbjnjaaDoor
