/- Layer 15's code: valuesOf, ofValues, bounds, Default. Layer 15's code: Check. Layer 15's code: Plain, Stored, Window, Budget. Layer 15's code: Bytes. Layer 15's code: Parse. Layer 15's code: Field, and what it looks for; Error. Layer 15's code: a wrong field's text. Layer 15's code: what the laws ask of it. -/
import Derived.Test.YtomkkkbdipcjgaaDoorPz15
import Derived.BigQuiet
import Derived.Defers
import Derived.Recover
import Derived.Laws.Pointers
import Derived.Test.YtomkkkbdipcjgaaDoorIt15
import Derived.Test.YtomkkkbdipcjgaaDoorStq
import Derived.Lib.ItoaLen
namespace Go.Proofs.YtomkkkbdipcjgaaDoor
open Go.RowKit
set_option linter.unusedVariables false
set_option linter.unusedSimpArgs false
theorem i6_info : (Tryd.prog.info? 64).map (·.size) = some 6 := by kernel_rfl
theorem heap_new2 (w : World) (o1 : Obj) (xs : Array Value) (t : TypeId) : ((w.alloc o1).alloc (.cells xs t)).heap[w.heap.size + 1]? = some (.cells xs t (0, 0)) := by
  have h := World.alloc_heap_new (w.alloc o1) (.cells xs t)
  have e : (w.alloc o1).heap.size = w.heap.size + 1 := by simp
  rw [e] at h
  exact h
set_option maxRecDepth 100000 in
set_option maxHeartbeats 1000000 in
theorem default15_any (n : Int) (w : World) : Calls Tryd.prog 25 #[.int .i64 n] w fun e w' => e = .returned (.agg (pmA (Da.dft15 n))) ∧ Below w.heap.size w w' := by
  obtain ⟨W1, hW1⟩ : ∃ W1, w.alloc (.cells (pmA (Da.dft15 n)) 23) = W1 := ⟨_, rfl⟩
  have hA : W1.heap[w.heap.size]? = some (.cells (pmA (Da.dft15 n)) 23 (0, 0)) := by rw [← hW1]; exact World.alloc_heap_new w _
  have hb : Below w.heap.size w W1 := by rw [← hW1]; exact new12 _ _
  have HB := Lib.hid hb
  have HA := Lib.hid hA
  unfold pmA Da.dft15 at hW1
  dsimp only at hW1
  have HW1 := Lib.hid hW1
  clear hb hA hW1
  go_enter Tryd.func25, Tryd.ntmps25
  go_wp2_with fail
  rw [HW1.out]
  -- STOP1
  refine bodyPost_ret (results_cell_row rfl _ _ w.heap.size 23 (pmA (Da.dft15 n)) (0, 0) _ rfl HA.out Tryd.underlying23 rfl pm15c_info) rfl ?_
  exact ⟨rfl, HB.out⟩
set_option maxRecDepth 100000 in
set_option maxHeartbeats 1000000 in
theorem values15_any (p : Pm15) (w : World) : Calls Tryd.prog 30 #[.agg (pmA p)] w fun e w' => e = .returned (.agg (pmA p)) ∧ Below w.heap.size w w' := by
  obtain ⟨g, hg⟩ : ∃ g, w.heap.size = g := ⟨_, rfl⟩
  obtain ⟨W2, hW2⟩ : ∃ W2, (w.alloc (.cells (pmA p) 23)).alloc (.cells (pmA p) 64) = W2 := ⟨_, rfl⟩
  have hA : W2.heap[g + 1]? = some (.cells (pmA p) 64 (0, 0)) := by rw [← hW2, ← hg]; exact heap_new2 _ _ _ _
  have hb : Below w.heap.size w W2 := by rw [← hW2]; exact Kit.step (new12 _ _) (new12 _ _)
  rw [hg] at hb
  have HB := Lib.hid hb
  have HA := Lib.hid hA
  have HG := Lib.hid hg
  obtain ⟨sz, se, sp, pe, pa, re⟩ := p
  unfold pmA at hW2 ⊢
  dsimp only at hW2 ⊢
  have HW2 := Lib.hid hW2
  clear hb hA hW2 hg
  go_enter Tryd.func30, Tryd.ntmps30
  go_wp2_with fail
  rw [HW2.out, HG.out]
  -- STOP2
  refine bodyPost_ret (results_cell_row rfl _ _ (g + 1) 64 _ (0, 0) _ rfl HA.out Tryd.underlying64 rfl i6_info) rfl ?_
  exact ⟨rfl, HB.out⟩
set_option maxRecDepth 100000 in
set_option maxHeartbeats 1000000 in
theorem ofValues15_any (p : Pm15) (w : World) : Calls Tryd.prog 36 #[.agg (pmA p)] w fun e w' => e = .returned (.agg (pmA p)) ∧ Below w.heap.size w w' := by
  obtain ⟨g, hg⟩ : ∃ g, w.heap.size = g := ⟨_, rfl⟩
  obtain ⟨W2, hW2⟩ : ∃ W2, (w.alloc (.cells (pmA p) 64)).alloc (.cells (pmA p) 23) = W2 := ⟨_, rfl⟩
  have hA : W2.heap[g + 1]? = some (.cells (pmA p) 23 (0, 0)) := by rw [← hW2, ← hg]; exact heap_new2 _ _ _ _
  have hb : Below w.heap.size w W2 := by rw [← hW2]; exact Kit.step (new12 _ _) (new12 _ _)
  rw [hg] at hb
  have HB := Lib.hid hb
  have HA := Lib.hid hA
  have HG := Lib.hid hg
  obtain ⟨sz, se, sp, pe, pa, re⟩ := p
  unfold pmA at hW2 ⊢
  dsimp only at hW2 ⊢
  have HW2 := Lib.hid hW2
  clear hb hA hW2 hg
  go_enter Tryd.func36, Tryd.ntmps36
  go_wp2_with fail
  rw [HW2.out, HG.out]
  -- STOP3
  refine bodyPost_ret (results_cell_row rfl _ _ (g + 1) 23 _ (0, 0) _ rfl HA.out Tryd.underlying23 rfl pm15c_info) rfl ?_
  exact ⟨rfl, HB.out⟩
def bndA (A : Nat → Addr) (p : Pm15) : Array Value := #[txt15 (Da.fld15 1), .int .i64 0, .int .i64 2000, sn15 A 8, txt15 (Da.fld15 2), .int .i64 0, .int .i64 8, sn15 A 18, txt15 (Da.fld15 3), .int .i64 1, .int .i64 12, sn15 A 1, txt15 (Da.fld15 4), .int .i64 1, .int .i64 10000, sn15 A 1, txt15 (Da.fld15 5), .int .i64 1, .int .i64 p.pe, sn15 A 1, txt15 (Da.fld15 6), .int .i64 0, .int .i64 5, sn15 A 1]
theorem bnd_info : (Tryd.prog.info? 68).map (·.size) = some 24 := by kernel_rfl
def bndZ : Array Value := #[.string ⟨#[]⟩, .int .i64 0, .int .i64 0, .nilIface, .string ⟨#[]⟩, .int .i64 0, .int .i64 0, .nilIface, .string ⟨#[]⟩, .int .i64 0, .int .i64 0, .nilIface, .string ⟨#[]⟩, .int .i64 0, .int .i64 0, .nilIface, .string ⟨#[]⟩, .int .i64 0, .int .i64 0, .nilIface, .string ⟨#[]⟩, .int .i64 0, .int .i64 0, .nilIface]
set_option maxRecDepth 100000 in
set_option maxHeartbeats 1000000 in
theorem bounds15_any (A : Nat → Addr) (p : Pm15) (w : World) (hE : E15 w A) : Calls Tryd.prog 31 #[.agg (pmA p)] w fun e w' => e = .returned (.agg (bndA A p)) ∧ Below w.heap.size w w' := by
  obtain ⟨g, hg⟩ : ∃ g, w.heap.size = g := ⟨_, rfl⟩
  obtain ⟨Z, hZ⟩ : ∃ Z : Array Value, bndZ = Z := ⟨_, rfl⟩
  obtain ⟨W2, hW2⟩ : ∃ W2, (w.alloc (.cells (pmA p) 23)).alloc (.cells Z 68) = W2 := ⟨_, rfl⟩
  have hz : W2.heap[g + 1]? = some (.cells Z 68 (0, 0)) := by rw [← hW2, ← hg]; exact heap_new2 _ _ _ _
  have hb2 : Below w.heap.size w W2 := by rw [← hW2]; exact Kit.step (new12 _ _) (new12 _ _)
  have hpe : W2.cell? ⟨g, 3, none⟩ = some (.int .i64 p.pe) := by
    rw [← hW2, ← hg, (new12 (w.alloc (.cells (pmA p) 23)) _).cell (by simp)]
    unfold World.cell?
    rw [World.alloc_heap_new]
    rfl
  obtain ⟨C, hC⟩ : ∃ C, bndA A p = C := ⟨_, rfl⟩
  obtain ⟨W3, hW3⟩ : ∃ W3, W2.setRow (g + 1) C = W3 := ⟨_, rfl⟩
  have hA : W3.heap[g + 1]? = some (.cells C 68 (0, 0)) := by rw [← hW3]; exact setRow_heap _ _ _ _ _ _ hz
  have hb : Below w.heap.size w W3 := by rw [← hW3]; exact hb2.trans (below_row (by omega))
  rw [hg] at hb
  have hE2 := hE.later hb2
  have c0 := hE2.c0
  have c7 := hE2.c7
  have c17 := hE2.c17
  have hsz : (Tryd.prog.info? 68).map (·.size) = some C.size := by rw [bnd_info, ← hC]; rfl
  have hone : C.all (·.oneCell') = true := by rw [← hC]; simp [bndA, txt15, sn15, Value.oneCell']
  have HB := Lib.hid hb
  have HA := Lib.hid hA
  have HG := Lib.hid hg
  have HZ := Lib.hid hz
  have HSZ := Lib.hid hsz
  have HZS : Hid (Z.size = C.size) := Lib.hid (by rw [← hZ, ← hC]; rfl)
  have HON := Lib.hid hone
  rw [← hZ] at hW2
  obtain ⟨sz, se, sp, pe, pa, re⟩ := p
  unfold bndA txt15 sn15 at hC
  unfold pmA at hW2 ⊢
  unfold bndZ at hW2
  dsimp only [Da.fld15, Nat.reduceSub] at hW2 hC hpe ⊢
  have HW2 := Lib.hid hW2
  have HW3 := Lib.hid hW3
  have HC := Lib.hid hC
  clear hb hA hW2 hg hE hE2 hZ hz hb2 hC hW3 hsz hone
  go_enter Tryd.func31, Tryd.ntmps31
  go_upto_region 1 with fail
  rw [HW2.out, HG.out]
  apply wp_region_lit
  -- STOP4
  repeat (refine wpList_plain rfl (fun K hK => ?_); go_simp; refine hK _ _ ?_; clear hK K)
  -- STOP5
  refine wpList_store_row rfl 68 (.tmp 2) (.tmp 17) rfl (g + 1) C rfl (by rw [← HC.out]; rfl) 68 Z HZ.out HSZ.out HZS.out HON.out ?_
  rw [HW3.out]
  go_wp2_with fail
  -- STOP6
  refine bodyPost_ret (results_cell_row rfl _ _ (g + 1) 68 _ (0, 0) _ rfl HA.out Tryd.underlying68 rfl HSZ.out) rfl ?_
  exact ⟨by rw [← HC.out]; rfl, by rw [HG.out]; exact HB.out⟩
end Go.Proofs.YtomkkkbdipcjgaaDoor
namespace Go.Proofs.YtomkkkbdipcjgaaDoor
open Go.RowKit
set_option linter.unusedVariables false
set_option linter.unusedSimpArgs false
theorem Da.tot15_ge (n : Int) : 32 ≤ Da.tot15 n := by
  unfold Da.tot15 totN shpN
  split <;> simp only [List.length_cons, List.length_nil] <;> omega
def Da.lo15 (i : Nat) : Int := match i with
  | 0 => 0
  | 1 => 0
  | 2 => 1
  | 3 => 1
  | 4 => 1
  | _ => 0
def Da.hi15 (p : Pm15) (i : Nat) : Int := match i with
  | 0 => 2000
  | 1 => 8
  | 2 => 12
  | 3 => 10000
  | 4 => p.pe
  | _ => 5
def Da.in15 (p : Pm15) (i : Nat) : Prop := Da.lo15 i ≤ Da.val15 p (i + 1) ∧ Da.val15 p (i + 1) ≤ Da.hi15 p i
theorem Da.bad15_at {p : Pm15} {i : Nat} (hi : i < 6) (h : ∀ j, j < i → Da.in15 p j) (hn : ¬ Da.in15 p i) : Da.bad15 p = i + 1 := by
  have ht := Da.tot15_ge p.sz
  have g : ∀ j, j < i → Da.lo15 j ≤ Da.val15 p (j + 1) ∧ Da.val15 p (j + 1) ≤ Da.hi15 p j := h
  unfold Da.in15 at hn
  match i, hi with
  | 0, _ =>
    simp only [Da.lo15, Da.hi15, Da.val15] at hn
    unfold Da.bad15
    rw [if_pos (by omega)]
  | 1, _ =>
    have g0 := g 0 (by omega)
    simp only [Da.lo15, Da.hi15, Da.val15] at hn g0
    unfold Da.bad15
    rw [if_neg (by omega), if_pos (by omega)]
  | 2, _ =>
    have g0 := g 0 (by omega)
    have g1 := g 1 (by omega)
    simp only [Da.lo15, Da.hi15, Da.val15] at hn g0 g1
    unfold Da.bad15
    rw [if_neg (by omega), if_neg (by omega), if_pos (by omega)]
  | 3, _ =>
    have g0 := g 0 (by omega)
    have g1 := g 1 (by omega)
    have g2 := g 2 (by omega)
    simp only [Da.lo15, Da.hi15, Da.val15] at hn g0 g1 g2
    unfold Da.bad15
    rw [if_neg (by omega), if_neg (by omega), if_neg (by omega), if_pos (by omega)]
  | 4, _ =>
    have g0 := g 0 (by omega)
    have g1 := g 1 (by omega)
    have g2 := g 2 (by omega)
    have g3 := g 3 (by omega)
    simp only [Da.lo15, Da.hi15, Da.val15] at hn g0 g1 g2 g3
    unfold Da.bad15
    rw [if_neg (by omega), if_neg (by omega), if_neg (by omega), if_neg (by omega), if_pos (by omega)]
  | 5, _ =>
    have g0 := g 0 (by omega)
    have g1 := g 1 (by omega)
    have g2 := g 2 (by omega)
    have g3 := g 3 (by omega)
    have g4 := g 4 (by omega)
    simp only [Da.lo15, Da.hi15, Da.val15] at hn g0 g1 g2 g3 g4
    unfold Da.bad15
    rw [if_neg (by omega), if_neg (by omega), if_neg (by omega), if_neg (by omega), if_neg (by omega), if_pos (by omega)]
  | n + 6, h => omega
theorem Da.bad15_none {p : Pm15} (g : ∀ j, j < 6 → Da.in15 p j) : Da.bad15 p = 0 := by
  have ht := Da.tot15_ge p.sz
  have g0 := g 0 (by omega)
  have g1 := g 1 (by omega)
  have g2 := g 2 (by omega)
  have g3 := g 3 (by omega)
  have g4 := g 4 (by omega)
  have g5 := g 5 (by omega)
  simp only [Da.in15, Da.lo15, Da.hi15, Da.val15] at g0 g1 g2 g3 g4 g5
  unfold Da.bad15
  rw [if_neg (by omega), if_neg (by omega), if_neg (by omega), if_neg (by omega), if_neg (by omega), if_neg (by omega)]
theorem pmL_at (p : Pm15) (i : Nat) (hi : i < 6) : (pmL p)[i]? = some (.int .i64 (Da.val15 p (i + 1))) := by
  match i, hi with
  | 0, _ | 1, _ | 2, _ | 3, _ | 4, _ | 5, _ => rfl
  | n + 6, h => omega
theorem bound_info : (Tryd.prog.info? 67).map (·.size) = some 4 := by kernel_rfl
/-- a round's bound -/
def bnd15 (A : Nat → Addr) (p : Pm15) (i : Nat) : Array Value := #[txt15 (Da.fld15 (i + 1)), .int .i64 (Da.lo15 i), .int .i64 (Da.hi15 p i), sn15 A (Da.err15 (i + 1))]
theorem bnd_at0 (A : Nat → Addr) (p : Pm15) (W : World) : (Instr.index 68 (.agg (bndA A p)) (.int .i64 ((0 : Nat) : Int))).run Tryd.prog W = .ok (.agg (bnd15 A p 0)) W := by kernel_rfl
theorem bnd_at1 (A : Nat → Addr) (p : Pm15) (W : World) : (Instr.index 68 (.agg (bndA A p)) (.int .i64 ((1 : Nat) : Int))).run Tryd.prog W = .ok (.agg (bnd15 A p 1)) W := by kernel_rfl
theorem bnd_at2 (A : Nat → Addr) (p : Pm15) (W : World) : (Instr.index 68 (.agg (bndA A p)) (.int .i64 ((2 : Nat) : Int))).run Tryd.prog W = .ok (.agg (bnd15 A p 2)) W := by kernel_rfl
theorem bnd_at3 (A : Nat → Addr) (p : Pm15) (W : World) : (Instr.index 68 (.agg (bndA A p)) (.int .i64 ((3 : Nat) : Int))).run Tryd.prog W = .ok (.agg (bnd15 A p 3)) W := by kernel_rfl
theorem bnd_at4 (A : Nat → Addr) (p : Pm15) (W : World) : (Instr.index 68 (.agg (bndA A p)) (.int .i64 ((4 : Nat) : Int))).run Tryd.prog W = .ok (.agg (bnd15 A p 4)) W := by kernel_rfl
theorem bnd_at5 (A : Nat → Addr) (p : Pm15) (W : World) : (Instr.index 68 (.agg (bndA A p)) (.int .i64 ((5 : Nat) : Int))).run Tryd.prog W = .ok (.agg (bnd15 A p 5)) W := by kernel_rfl
theorem bnd_at (A : Nat → Addr) (p : Pm15) (i : Nat) (hi : i < 6) (W : World) : (Instr.index 68 (.agg (bndA A p)) (.int .i64 (i : Int))).run Tryd.prog W = .ok (.agg (bnd15 A p i)) W := by
  match i, hi with
  | 0, _ => exact bnd_at0 A p W
  | 1, _ => exact bnd_at1 A p W
  | 2, _ => exact bnd_at2 A p W
  | 3, _ => exact bnd_at3 A p W
  | 4, _ => exact bnd_at4 A p W
  | 5, _ => exact bnd_at5 A p W
  | n + 6, h => omega
/-- the walk's state at a round's begin -/
structure Ck15 (A : Nat → Addr) (p : Pm15) (w : World) (g gv : Nat) (v10 : Value) (W : World) : Prop where
  ex : ∃ i : Nat, i ≤ 6 ∧ v10 = .int .i64 (i : Int) ∧ (∀ j, j < i → Da.in15 p j)
  av : Arr W gv 64 (pmL p)
  b : Below w.heap.size w W
set_option maxRecDepth 100000 in
set_option maxHeartbeats 4000000 in
theorem check15_any (A : Nat → Addr) (W0 : World) (p : Pm15) (hok : p.ok) (hE : E15 W0 A) :
    Calls Tryd.prog 9 #[.agg (pmA p)] W0 fun e w' => ∃ v, e = .returned v ∧ WrV A p w' v ∧ Below W0.heap.size W0 w' := by
  obtain ⟨g, hg⟩ : ∃ g, W0.heap.size = g := ⟨_, rfl⟩
  obtain ⟨W1, hW1⟩ : ∃ W1, W0.alloc (.cells (pmA p) 23) = W1 := ⟨_, rfl⟩
  have hA1 : Arr W1 g 23 (pmL p) := by rw [← hW1, ← hg]; exact World.alloc_heap_new W0 _
  have hb1 : Below W0.heap.size W0 W1 := by rw [← hW1]; exact new12 _ _
  have HV := Lib.hid (values15_any p W1)
  have HE := Lib.hid hE
  have HA1 := Lib.hid hA1
  have HB1 := Lib.hid hb1
  have HW1 := Lib.hid hW1
  have HG := Lib.hid hg
  have HOK := Lib.hid hok
  clear hE hA1 hb1 hW1 hg hok
  obtain ⟨P, hP⟩ : ∃ P, pmA p = P := ⟨_, rfl⟩
  rw [hP] at HV HW1 ⊢
  have HP := Lib.hid hP
  clear hP
  go_enter Tryd.func9, Tryd.ntmps9
  go_upto_region 1 with fail
  rw [HW1.out, HG.out]
  apply wp_region_lit
  refine wpList_load_row rfl 23 (.tmp 1) rfl g rfl 23 P (0, 0) _ (by rw [← HP.out]; exact HA1.out) Tryd.underlying23 rfl (by rw [← HP.out]; exact pm15c_info) ?_
  (refine wpList_plain rfl (fun K hK => ?_); go_simp)
  refine HV.out.mono ?_
  rintro e W2 ⟨rfl, hb2⟩
  refine hK _ _ ?_
  clear hK K HV
  obtain ⟨gv, hgv⟩ : ∃ gv, W2.heap.size = gv := ⟨_, rfl⟩
  obtain ⟨W3, hW3⟩ : ∃ W3, W2.alloc (.cells #[.int .i64 0, .int .i64 0, .int .i64 0, .int .i64 0, .int .i64 0, .int .i64 0] 64) = W3 := ⟨_, rfl⟩
  have hz3 : W3.heap[gv]? = some (.cells #[.int .i64 0, .int .i64 0, .int .i64 0, .int .i64 0, .int .i64 0, .int .i64 0] 64 (0, 0)) := by rw [← hW3, ← hgv]; exact World.alloc_heap_new W2 _
  obtain ⟨W4, hW4⟩ : ∃ W4, W3.setRow gv P = W4 := ⟨_, rfl⟩
  have hA4 : Arr W4 gv 64 (pmL p) := by rw [← hW4, ← HP.out]; exact setRow_heap _ _ _ _ _ _ hz3
  have hb4 : Below W2.heap.size W2 W4 := by rw [← hW4, ← hW3]; exact (new12 _ _).trans (below_row (Nat.le_of_eq hgv))
  have HA4 := Lib.hid hA4
  have HP4 := Lib.hid (((HA1.out.later hb2 HA1.out.lt).later hb4 (HA1.out.later hb2 HA1.out.lt).lt))
  have HB4 := Lib.hid (Kit.step (Kit.step HB1.out hb2) hb4)
  have HZ3 := Lib.hid hz3
  have HW3 := Lib.hid hW3
  have HW4 := Lib.hid hW4
  have HGV := Lib.hid hgv
  have HBN := Lib.hid (bounds15_any A p W4 (HE.out.later HB4.out))
  clear hA4 hb4 hz3 hW3 hW4 hgv hb2
  (refine wpList_plain rfl (fun K hK => ?_); go_simp; refine hK _ _ ?_; clear hK K)
  rw [HW3.out, HGV.out]
  refine wpList_store_row rfl 64 (.tmp 3) (.tmp 7) rfl gv P rfl rfl 64 _ HZ3.out (by rw [← HP.out]; exact i6_info) (by rw [← HP.out]; rfl) (by rw [← HP.out]; exact pm15_oneCell _) ?_
  rw [HW4.out]
  rw [HP.out] at HBN
  obtain ⟨BA, hBA⟩ : ∃ BA, bndA A p = BA := ⟨_, rfl⟩
  rw [hBA] at HBN
  have HBA := Lib.hid hBA
  clear hBA
  -- STOP1
  go_upto_region 2 with fail
  apply wp_region_lit
  refine wpList_load_row rfl 23 (.tmp 1) rfl g rfl 23 P (0, 0) _ (by rw [← HP.out]; exact HP4.out) Tryd.underlying23 rfl (by rw [← HP.out]; exact pm15c_info) ?_
  (refine wpList_plain rfl (fun K hK => ?_); go_simp)
  refine HBN.out.mono ?_
  rintro e W5 ⟨rfl, hb5⟩
  refine hK _ _ ?_
  clear hK K HBN
  have HA5 := Lib.hid (HA4.out.later hb5 HA4.out.lt)
  have HB5 := Lib.hid (Kit.step HB4.out hb5)
  clear hb5
  (refine wpList_plain rfl (fun K hK => ?_); go_simp; refine hK _ _ ?_; clear hK K)
  go_wp2_with fail
  -- STOP2
  go_loopw [10] (fun v10 W => Ck15 A p W0 g gv v10 W) (fun v _ => 6 - (intOf v).toNat)
  case atStart =>
    exact ⟨⟨0, by omega, rfl, fun j hj => absurd hj (by omega)⟩, HA5.out, HB5.out⟩
  -- STOP3
  case round =>
    obtain ⟨⟨i, hi, rfl, hin⟩, hav, hbl⟩ := hrel
    have HIN := Lib.hid hin
    have HAV := Lib.hid hav
    have HBL := Lib.hid hbl
    clear hin hav hbl
    by_cases h6 : i < 6
    · have d0 : decide ((i : Int) < 6) = true := decide_eq_true (by omega)
      have hix := fun W => bnd_at A p i h6 W
      rw [HBA.out] at hix
      obtain ⟨BI, hBI⟩ : ∃ BI, bnd15 A p i = BI := ⟨_, rfl⟩
      rw [hBI] at hix
      have HBI := Lib.hid hBI
      clear hBI
      go_upto_region 4 with fail
      obtain ⟨gb, hgb⟩ : ∃ gb, wr.heap.size = gb := ⟨_, rfl⟩
      obtain ⟨W6, hW6⟩ : ∃ W6, wr.alloc (.cells #[.string ⟨#[]⟩, .int .i64 0, .int .i64 0, .nilIface] 67) = W6 := ⟨_, rfl⟩
      have hz6 : W6.heap[gb]? = some (.cells #[.string ⟨#[]⟩, .int .i64 0, .int .i64 0, .nilIface] 67 (0, 0)) := by rw [← hW6, ← hgb]; exact World.alloc_heap_new wr _
      obtain ⟨W7, hW7⟩ : ∃ W7, W6.setRow gb BI = W7 := ⟨_, rfl⟩
      have hh7 : W7.heap[gb]? = some (.cells BI 67 (0, 0)) := by rw [← hW7]; exact setRow_heap _ _ _ _ _ _ hz6
      have hb7 : Below wr.heap.size wr W7 := by rw [← hW7, ← hW6]; exact (new12 _ _).trans (below_row (Nat.le_of_eq hgb))
      have hA7 := HAV.out.later hb7 HAV.out.lt
      have hB7 := Kit.step HBL.out hb7
      have HZ6 := Lib.hid hz6
      have HW6 := Lib.hid hW6
      have HW7 := Lib.hid hW7
      have HGB := Lib.hid hgb
      have HBS : Hid (BI.size = 4) := Lib.hid (by rw [← HBI.out]; rfl)
      have HB1C : Hid (BI.all (·.oneCell') = true) := Lib.hid (by rw [← HBI.out]; simp [bnd15, txt15, sn15, Value.oneCell'])
      clear hz6 hW6 hW7 hgb
      apply wp_region_lit
      (refine wpList_plain rfl (fun K hK => ?_); go_simp; refine hK _ _ ?_; clear hK K)
      (refine wpList_plain rfl (fun K hK => ?_); go_simp; refine hK _ _ ?_; clear hK K)
      (refine wpList_plain rfl (fun K hK => ?_); go_simp; refine hK _ _ ?_; clear hK K)
      rw [HW6.out, HGB.out]
      (refine wpList_plain rfl (fun K hK => ?_); go_simp; refine hK _ _ ?_; clear hK K)
      refine wpList_store_row rfl 67 (.tmp 5) (.tmp 13) rfl gb BI rfl rfl 67 _ HZ6.out (by rw [HBS.out]; exact bound_info) (by rw [HBS.out]; rfl) HB1C.out ?_
      rw [HW7.out]
      have hbi := HBI.out
      obtain ⟨X, hX⟩ : ∃ X, Da.val15 p (i + 1) = X := ⟨_, rfl⟩
      obtain ⟨lo, hlo⟩ : ∃ lo, Da.lo15 i = lo := ⟨_, rfl⟩
      obtain ⟨hh, hhi⟩ : ∃ hh, Da.hi15 p i = hh := ⟨_, rfl⟩
      obtain ⟨FF, hFF⟩ : ∃ FF : ByteArray, (⟨(Da.fld15 (i + 1)).toArray⟩ : ByteArray) = FF := ⟨_, rfl⟩
      obtain ⟨ad, had⟩ : ∃ ad, A (Da.err15 (i + 1) - 1) = ad := ⟨_, rfl⟩
      unfold bnd15 txt15 sn15 at hbi
      rw [hlo, hhi, hFF, had] at hbi
      have hcv : W7.cell? ⟨gv, i, none⟩ = some (.int .i64 X) := by rw [hA7.cell, pmL_at p i h6, hX]
      have hc0 : W7.cell? ⟨gb, 0, none⟩ = some (.string FF) := by unfold World.cell?; rw [hh7, ← hbi]; rfl
      have hc1 : W7.cell? ⟨gb, 1, none⟩ = some (.int .i64 lo) := by unfold World.cell?; rw [hh7, ← hbi]; rfl
      have hc2 : W7.cell? ⟨gb, 2, none⟩ = some (.int .i64 hh) := by unfold World.cell?; rw [hh7, ← hbi]; rfl
      have hc3 : W7.cell? ⟨gb, 3, none⟩ = some (.iface 127 (.pointer (some ad))) := by unfold World.cell?; rw [hh7, ← hbi]; rfl
      have HA7 := Lib.hid hA7
      have HB7 := Lib.hid hB7
      have HX := Lib.hid hX
      have HLO := Lib.hid hlo
      have HHI := Lib.hid hhi
      have HFF := Lib.hid hFF
      have HAD := Lib.hid had
      clear hh7 hb7 hA7 hB7 hbi hX hlo hhi hFF had
      have hbd : 0 ≤ (i : Int) ∧ (i : Int) < 6 := by omega
      clear hix
      have hfail : ¬ (lo ≤ X ∧ X ≤ hh) → ∀ k, WrV A p ((W7.drewN k).alloc (.cells #[.string FF, .int .i64 X, .iface 127 (.pointer (some ad))] 59)) (.iface 56 (.pointer (some ⟨W7.heap.size, 0, none⟩))) ∧ Below W0.heap.size W0 ((W7.drewN k).alloc (.cells #[.string FF, .int .i64 X, .iface 127 (.pointer (some ad))] 59)) := by
        intro hn k
        have hbad : Da.bad15 p = i + 1 := Da.bad15_at h6 HIN.out (by unfold Da.in15; rw [HX.out, HLO.out, HHI.out]; exact hn)
        refine ⟨.inr ⟨by omega, W7.heap.size, rfl, ?_⟩, ?_⟩
        · unfold WrAt txt15 sn15
          rw [hbad, HX.out, HFF.out, HAD.out]
          exact World.alloc_heap_new (W7.drewN k) _
        · exact Kit.step (Kit.step HB7.out (Kit.dn' W7 k)) (new12 _ _)
      have HFAIL := Lib.hid hfail
      clear hfail
      by_cases c1 : X < lo
      · have d1 : decide (X < lo) = true := decide_eq_true c1
        go_upto_region 5 with fail
        go_quiet (fail)
        go_upto_region 6 with fail
        go_region
        go_wp2_with fail
        go_ret
        exact ⟨_, rfl, HFAIL.out (by omega) _⟩
      · have d1 : decide (X < lo) = false := decide_eq_false c1
        by_cases c2 : hh < X
        · have d2 : decide (X > hh) = true := decide_eq_true c2
          have d3 : decide (hh < X) = true := decide_eq_true c2
          go_upto_region 5 with fail
          go_quiet (fail)
          go_upto_region 6 with fail
          go_region
          go_wp2_with fail
          go_ret
          exact ⟨_, rfl, HFAIL.out (by omega) _⟩
        · have d2 : decide (X > hh) = false := decide_eq_false c2
          have d3 : decide (hh < X) = false := decide_eq_false c2
          have hw : IntKind.i64.wrap ((i : Int) + 1) = (i : Int) + 1 := by rw [IntKind.wrap_i64]; omega
          go_upto_region 5 with fail
          go_quiet (fail)
          go_wp2_with fail
          -- STOP8
          go_roundw
          -- STOP9
          case rel =>
            refine ⟨⟨i + 1, by omega, by go_num, fun j hj => ?_⟩, ?_, ?_⟩
            · by_cases e : j = i
              · subst e
                unfold Da.in15
                rw [HX.out, HLO.out, HHI.out]
                omega
              · exact HIN.out j (by omega)
            · exact HA7.out.drewN _
            · exact Kit.dn HB7.out _
          case measure => simp [intOf]; omega
    · have e6 : i = 6 := by omega
      have hnone : Da.bad15 p = 0 := Da.bad15_none (by rw [← e6]; exact HIN.out)
      have HN := Lib.hid hnone
      have d0 : decide ((i : Int) < 6) = false := decide_eq_false (by omega)
      clear hnone e6
      go_wp2_with fail
      -- STOP10
      go_ret
      exact ⟨_, rfl, .inl ⟨HN.out, rfl⟩, HBL.out⟩
end Go.Proofs.YtomkkkbdipcjgaaDoor
namespace Go.Proofs.YtomkkkbdipcjgaaDoor
open Go.RowKit
set_option linter.unusedVariables false
set_option linter.unusedSimpArgs false
theorem neq_nil15 (v : World) : (binOp .neq 29 .nilIface .nilIface).run Tryd.prog v = .ok (.bool false) v := by kernel_rfl
theorem neq_wr15 (b : Nat) (v : World) : (binOp .neq 29 (wr15 b) .nilIface).run Tryd.prog v = .ok (.bool true) v := by kernel_rfl
set_option maxRecDepth 100000 in
set_option maxHeartbeats 1000000 in
theorem plain15_any (A : Nat → Addr) (W0 : World) (p : Pm15) (hok : p.ok) (hE : E15 W0 A) :
    Calls Tryd.prog 13 #[.agg (pmA p)] W0 fun e w' => ∃ v, e = .returned (.tuple #[.int .i64 (if Da.bad15 p = 0 then (Da.tot15 p.sz : Int) else 0), v]) ∧ WrV A p w' v ∧ Below W0.heap.size W0 w' := by
  obtain ⟨g, hg⟩ : ∃ g, W0.heap.size = g := ⟨_, rfl⟩
  obtain ⟨W1, hW1⟩ : ∃ W1, W0.alloc (.cells (pmA p) 23) = W1 := ⟨_, rfl⟩
  have hA1 : Arr W1 g 23 (pmL p) := by rw [← hW1, ← hg]; exact World.alloc_heap_new W0 _
  have hb1 : Below W0.heap.size W0 W1 := by rw [← hW1]; exact new12 _ _
  have HCK := Lib.hid (check15_any A W1 p hok (hE.later hb1))
  have HA1 := Lib.hid hA1
  have HB1 := Lib.hid hb1
  have HW1 := Lib.hid hW1
  have HG := Lib.hid hg
  obtain ⟨TT, hTT⟩ : ∃ TT : Int, (if Da.bad15 p = 0 then (Da.tot15 p.sz : Int) else 0) = TT := ⟨_, rfl⟩
  rw [hTT]
  have HTT := Lib.hid hTT
  clear hE hA1 hb1 hW1 hg hok hTT
  obtain ⟨P, hP⟩ : ∃ P, pmA p = P := ⟨_, rfl⟩
  rw [hP] at HCK HW1 ⊢
  have HP := Lib.hid hP
  clear hP
  go_enter Tryd.func13, Tryd.ntmps13
  go_upto_region 1 with fail
  rw [HW1.out, HG.out]
  apply wp_region_lit
  refine wpList_load_row rfl 23 (.tmp 1) rfl g rfl 23 P (0, 0) _ (by rw [← HP.out]; exact HA1.out) Tryd.underlying23 rfl (by rw [← HP.out]; exact pm15c_info) ?_
  (refine wpList_plain rfl (fun K hK => ?_); go_simp)
  refine HCK.out.mono ?_
  rintro e W2 ⟨v, rfl, hv, hb2⟩
  refine hK _ _ ?_
  clear hK K HCK
  have HA2 := Lib.hid (HA1.out.later hb2 HA1.out.lt)
  have HB2 := Lib.hid (Kit.step HB1.out hb2)
  clear hb2
  (refine wpList_plain rfl (fun K hK => ?_); go_simp; refine hK _ _ ?_; clear hK K)
  rcases hv with ⟨h0, rfl⟩ | ⟨h0, b, rfl, hw⟩
  · have hr := Da.right15 h0
    have hT := ctotal_any p.sz.toNat W2 (by have := hr.s0; have := hr.s1; omega)
    rw [show ((p.sz.toNat : Nat) : Int) = p.sz by have := hr.s0; omega, show ((totN (nbk p.sz.toNat) : Nat) : Int) = TT by rw [← HTT.out, if_pos h0]; rfl] at hT
    have hc0 : W2.cell? ⟨g, 0, none⟩ = some (.int .i64 p.sz) := by rw [HA2.out.cell]; rfl
    have HT := Lib.hid hT
    have H0 := Lib.hid h0
    have hq := neq_nil15
    clear hT h0 hr
    -- STOP1
    go_wp2_with fail
    refine HT.out.mono ?_
    rintro e W3 ⟨rfl, hb3⟩
    go_wp2_with fail
    go_ret2
    exact ⟨_, rfl, .inl ⟨H0.out, rfl⟩, Kit.step HB2.out hb3⟩
  · have HW := Lib.hid hw
    have H0 := Lib.hid h0
    have hT0 : TT = 0 := by rw [← HTT.out, if_neg h0]
    have HT0 := Lib.hid hT0
    have hq := neq_wr15 b
    unfold wr15 at hq ⊢
    clear hw h0 hT0
    go_wp2_with fail
    -- STOP2
    go_ret2
    rw [HT0.out]
    exact ⟨_, rfl, .inr ⟨H0.out, b, rfl, HW.out⟩, HB2.out⟩
set_option maxRecDepth 100000 in
set_option maxHeartbeats 1000000 in
theorem stored15_any (A : Nat → Addr) (W0 : World) (p : Pm15) (hok : p.ok) (hE : E15 W0 A) :
    Calls Tryd.prog 12 #[.agg (pmA p)] W0 fun e w' => ∃ v, e = .returned (.tuple #[.int .i64 (if Da.bad15 p = 0 then (Da.tot15 p.sz : Int) + p.se else 0), v]) ∧ WrV A p w' v ∧ Below W0.heap.size W0 w' := by
  obtain ⟨g, hg⟩ : ∃ g, W0.heap.size = g := ⟨_, rfl⟩
  obtain ⟨W1, hW1⟩ : ∃ W1, W0.alloc (.cells (pmA p) 23) = W1 := ⟨_, rfl⟩
  have hA1 : Arr W1 g 23 (pmL p) := by rw [← hW1, ← hg]; exact World.alloc_heap_new W0 _
  have hb1 : Below W0.heap.size W0 W1 := by rw [← hW1]; exact new12 _ _
  have HCK := Lib.hid (plain15_any A W1 p hok (hE.later hb1))
  have HA1 := Lib.hid hA1
  have HB1 := Lib.hid hb1
  have HW1 := Lib.hid hW1
  have HG := Lib.hid hg
  obtain ⟨TT, hTT⟩ : ∃ TT : Int, (if Da.bad15 p = 0 then (Da.tot15 p.sz : Int) + p.se else 0) = TT := ⟨_, rfl⟩
  rw [hTT]
  have HTT := Lib.hid hTT
  clear hE hA1 hb1 hW1 hg hok hTT
  obtain ⟨P, hP⟩ : ∃ P, pmA p = P := ⟨_, rfl⟩
  rw [hP] at HCK HW1 ⊢
  have HP := Lib.hid hP
  clear hP
  go_enter Tryd.func12, Tryd.ntmps12
  go_upto_region 1 with fail
  rw [HW1.out, HG.out]
  apply wp_region_lit
  refine wpList_load_row rfl 23 (.tmp 1) rfl g rfl 23 P (0, 0) _ (by rw [← HP.out]; exact HA1.out) Tryd.underlying23 rfl (by rw [← HP.out]; exact pm15c_info) ?_
  obtain ⟨PL, hPL⟩ : ∃ PL : Int, (if Da.bad15 p = 0 then (Da.tot15 p.sz : Int) else 0) = PL := ⟨_, rfl⟩
  rw [hPL] at HCK
  have HPL := Lib.hid hPL
  clear hPL
  (refine wpList_plain rfl (fun K hK => ?_); go_simp)
  refine HCK.out.mono ?_
  rintro e W2 ⟨v, rfl, hv, hb2⟩
  refine hK _ _ ?_
  clear hK K HCK
  have HA2 := Lib.hid (HA1.out.later hb2 HA1.out.lt)
  have HB2 := Lib.hid (Kit.step HB1.out hb2)
  clear hb2
  repeat (refine wpList_plain rfl (fun K hK => ?_); go_simp; refine hK _ _ ?_; clear hK K)
  rcases hv with ⟨h0, rfl⟩ | ⟨h0, b, rfl, hw⟩
  · have hr := Da.right15 h0
    have hc1 : W2.cell? ⟨g, 1, none⟩ = some (.int .i64 p.se) := by rw [HA2.out.cell]; rfl
    have hbd := totN_bd (nbk p.sz.toNat) (nbk_bd _ (by have := hr.s0; have := hr.s1; omega))
    have hs : IntKind.i64.wrap (PL + p.se) = TT := by
      have e1 : TT = PL + p.se := by rw [← HTT.out, ← HPL.out, if_pos h0, if_pos h0]
      have e2 : PL = ((totN (nbk p.sz.toNat) : Nat) : Int) := by rw [← HPL.out, if_pos h0]; rfl
      have e3 := hr.e0
      have e4 := hr.e1
      rw [IntKind.wrap_i64]
      omega
    have H0 := Lib.hid h0
    have hq := neq_nil15
    clear h0 hr hbd
    go_wp2_with fail
    -- STOP3
    go_ret2
    exact ⟨_, rfl, .inl ⟨H0.out, rfl⟩, HB2.out⟩
  · have HW := Lib.hid hw
    have H0 := Lib.hid h0
    have hT0 : TT = 0 := by rw [← HTT.out, if_neg h0]
    have HT0 := Lib.hid hT0
    have hq := neq_wr15 b
    unfold wr15 at hq ⊢
    clear hw h0 hT0
    go_wp2_with fail
    go_ret2
    rw [HT0.out]
    exact ⟨_, rfl, .inr ⟨H0.out, b, rfl, HW.out⟩, HB2.out⟩
set_option maxRecDepth 100000 in
set_option maxHeartbeats 1000000 in
theorem window15_any (A : Nat → Addr) (W0 : World) (p : Pm15) (hok : p.ok) (hE : E15 W0 A) :
    Calls Tryd.prog 15 #[.agg (pmA p)] W0 fun e w' => e = .returned (.int .i64 (Da.win15 p)) ∧ Below W0.heap.size W0 w' := by
  obtain ⟨g, hg⟩ : ∃ g, W0.heap.size = g := ⟨_, rfl⟩
  obtain ⟨W1, hW1⟩ : ∃ W1, W0.alloc (.cells (pmA p) 23) = W1 := ⟨_, rfl⟩
  have hA1 : Arr W1 g 23 (pmL p) := by rw [← hW1, ← hg]; exact World.alloc_heap_new W0 _
  have hb1 : Below W0.heap.size W0 W1 := by rw [← hW1]; exact new12 _ _
  have HCK := Lib.hid (check15_any A W1 p hok (hE.later hb1))
  have HA1 := Lib.hid hA1
  have HB1 := Lib.hid hb1
  have HW1 := Lib.hid hW1
  have HG := Lib.hid hg
  obtain ⟨TT, hTT⟩ : ∃ TT : Int, Da.win15 p = TT := ⟨_, rfl⟩
  rw [hTT]
  have HTT := Lib.hid hTT
  clear hE hA1 hb1 hW1 hg hok hTT
  obtain ⟨P, hP⟩ : ∃ P, pmA p = P := ⟨_, rfl⟩
  rw [hP] at HCK HW1 ⊢
  have HP := Lib.hid hP
  clear hP
  go_enter Tryd.func15, Tryd.ntmps15
  go_upto_region 1 with fail
  rw [HW1.out, HG.out]
  apply wp_region_lit
  refine wpList_load_row rfl 23 (.tmp 1) rfl g rfl 23 P (0, 0) _ (by rw [← HP.out]; exact HA1.out) Tryd.underlying23 rfl (by rw [← HP.out]; exact pm15c_info) ?_
  (refine wpList_plain rfl (fun K hK => ?_); go_simp)
  refine HCK.out.mono ?_
  rintro e W2 ⟨v, rfl, hv, hb2⟩
  refine hK _ _ ?_
  clear hK K HCK
  have HA2 := Lib.hid (HA1.out.later hb2 HA1.out.lt)
  have HB2 := Lib.hid (Kit.step HB1.out hb2)
  clear hb2
  rcases hv with ⟨h0, rfl⟩ | ⟨h0, b, rfl, hw⟩
  · have hr := Da.right15 h0
    have hc3 : W2.cell? ⟨g, 3, none⟩ = some (.int .i64 p.pe) := by rw [HA2.out.cell]; rfl
    have hc4 : W2.cell? ⟨g, 4, none⟩ = some (.int .i64 p.pa) := by rw [HA2.out.cell]; rfl
    have hc5 : W2.cell? ⟨g, 5, none⟩ = some (.int .i64 p.re) := by rw [HA2.out.cell]; rfl
    obtain ⟨S, hS⟩ : ∃ S, p.re + 1 = S := ⟨_, rfl⟩
    obtain ⟨M, hM⟩ : ∃ M, p.pa * S = M := ⟨_, rfl⟩
    have e0 := hr.r0
    have e1 := hr.r1
    have e2 := hr.a0
    have e3 := hr.a1
    have e4 := hr.p0
    have e5 := hr.p1
    have m1 : 0 ≤ M := by rw [← hM]; exact Int.mul_nonneg (by omega) (by omega)
    have m2 : M ≤ 10000 * 6 := by rw [← hM]; exact Int.mul_le_mul (by omega) (by omega) (by omega) (by omega)
    have w1 : IntKind.i64.wrap (p.re + 1) = S := by rw [IntKind.wrap_i64]; omega
    have w2 : IntKind.i64.wrap (p.pa * S) = M := by rw [hM, IntKind.wrap_i64]; omega
    have w3 : IntKind.i64.wrap (p.pe + M) = TT := by
      have : TT = p.pe + M := by rw [← HTT.out, ← hM, ← hS]; unfold Da.win15; rw [if_pos h0, Int.add_comm 1 p.re]
      rw [IntKind.wrap_i64]
      omega
    have hq := neq_nil15
    clear h0 hr hS hM e0 e1 e2 e3 e4 e5 m1 m2
    go_wp2_with fail
    -- STOP4
    go_ret
    exact ⟨rfl, HB2.out⟩
  · have hT0 : TT = 0 := by rw [← HTT.out]; unfold Da.win15; rw [if_neg h0]
    have HT0 := Lib.hid hT0
    have hq := neq_wr15 b
    unfold wr15 at hq ⊢
    clear hw h0 hT0
    go_wp2_with fail
    go_ret
    rw [HT0.out]
    exact ⟨rfl, HB2.out⟩
set_option maxRecDepth 100000 in
set_option maxHeartbeats 1000000 in
theorem budget15_any (A : Nat → Addr) (W0 : World) (p : Pm15) (hok : p.ok) (hE : E15 W0 A) :
    Calls Tryd.prog 16 #[.agg (pmA p)] W0 fun e w' => e = .returned (.int .i64 (if Da.bad15 p = 0 then p.se else 0)) ∧ Below W0.heap.size W0 w' := by
  obtain ⟨g, hg⟩ : ∃ g, W0.heap.size = g := ⟨_, rfl⟩
  obtain ⟨W1, hW1⟩ : ∃ W1, W0.alloc (.cells (pmA p) 23) = W1 := ⟨_, rfl⟩
  have hA1 : Arr W1 g 23 (pmL p) := by rw [← hW1, ← hg]; exact World.alloc_heap_new W0 _
  have hb1 : Below W0.heap.size W0 W1 := by rw [← hW1]; exact new12 _ _
  have HCK := Lib.hid (check15_any A W1 p hok (hE.later hb1))
  have HA1 := Lib.hid hA1
  have HB1 := Lib.hid hb1
  have HW1 := Lib.hid hW1
  have HG := Lib.hid hg
  obtain ⟨TT, hTT⟩ : ∃ TT : Int, (if Da.bad15 p = 0 then p.se else 0) = TT := ⟨_, rfl⟩
  rw [hTT]
  have HTT := Lib.hid hTT
  clear hE hA1 hb1 hW1 hg hok hTT
  obtain ⟨P, hP⟩ : ∃ P, pmA p = P := ⟨_, rfl⟩
  rw [hP] at HCK HW1 ⊢
  have HP := Lib.hid hP
  clear hP
  go_enter Tryd.func16, Tryd.ntmps16
  go_upto_region 1 with fail
  rw [HW1.out, HG.out]
  apply wp_region_lit
  refine wpList_load_row rfl 23 (.tmp 1) rfl g rfl 23 P (0, 0) _ (by rw [← HP.out]; exact HA1.out) Tryd.underlying23 rfl (by rw [← HP.out]; exact pm15c_info) ?_
  (refine wpList_plain rfl (fun K hK => ?_); go_simp)
  refine HCK.out.mono ?_
  rintro e W2 ⟨v, rfl, hv, hb2⟩
  refine hK _ _ ?_
  clear hK K HCK
  have HA2 := Lib.hid (HA1.out.later hb2 HA1.out.lt)
  have HB2 := Lib.hid (Kit.step HB1.out hb2)
  clear hb2
  rcases hv with ⟨h0, rfl⟩ | ⟨h0, b, rfl, hw⟩
  · have hr := Da.right15 h0
    have hc1 : W2.cell? ⟨g, 1, none⟩ = some (.int .i64 TT) := by rw [HA2.out.cell, ← HTT.out, if_pos h0]; rfl
    have hq := neq_nil15
    clear h0 hr
    go_wp2_with fail
    -- STOP4
    go_ret
    exact ⟨rfl, HB2.out⟩
  · have hT0 : TT = 0 := by rw [← HTT.out]; rw [if_neg h0]
    have HT0 := Lib.hid hT0
    have hq := neq_wr15 b
    unfold wr15 at hq ⊢
    clear hw h0 hT0
    go_wp2_with fail
    go_ret
    rw [HT0.out]
    exact ⟨rfl, HB2.out⟩
end Go.Proofs.YtomkkkbdipcjgaaDoor
namespace Go.Proofs.YtomkkkbdipcjgaaDoor
open Go.RowKit
set_option linter.unusedVariables false
set_option linter.unusedSimpArgs false
theorem own_later15 {W W' : World} {n : Nat} {v : Value} {xs : List Value} {m : Nat} (h : W.ownsRow n 5 1 v m xs) (hb : Below W.heap.size W W') : W'.ownsRow n 5 1 v m xs := by
  obtain ⟨h1, h2 | ⟨g, cap, cur, e, hbs, hg, hr⟩⟩ := h
  · exact ⟨h1, .inl h2⟩
  · exact ⟨h1, .inr ⟨g, cap, cur, e, hbs, by rw [hb.block g (Array.getElem?_eq_some_iff.1 hg).1]; exact hg, hr⟩⟩
/-- how many bytes a field has -/
def Da.wd15 (k : Nat) : Nat := match k with
  | 0 => 2
  | 1 => 1
  | 2 => 1
  | 3 => 2
  | 4 => 2
  | _ => 1
theorem Da.wid15_at (k : Nat) (hk : k < 6) : Da.wid15.getD k 0 = ((Da.wd15 k : Nat) : Int) := by
  match k, hk with
  | 0, _ | 1, _ | 2, _ | 3, _ | 4, _ | 5, _ => rfl
  | n + 6, h => omega
theorem Da.wd15_or (k : Nat) : Da.wd15 k = 1 ∨ Da.wd15 k = 2 := by
  unfold Da.wd15
  split <;> simp
theorem wd15_cell {W : World} (h : Wd15 W) (k : Nat) (hk : k < 6) : W.cell? ⟨20, k, none⟩ = some (.int .i64 ((Da.wd15 k : Nat) : Int)) := by
  have := Lib.TabIs.cell (g := 20) h (by kernel_rfl) k (by exact hk)
  rw [this, Da.wid15_at k hk]
/-- a field's value, as a natural number -/
def Da.nv15 (p : Pm15) (k : Nat) : Nat := (Da.val15 p (k + 1)).toNat
/-- the bytes of the first fields -/
def Da.byk15 (p : Pm15) : Nat → List UInt8
  | 0 => []
  | k + 1 => Da.byk15 p k ++ ((if Da.wd15 k = 2 then [UInt8.ofNat (Da.nv15 p k / 256)] else []) ++ [UInt8.ofNat (Da.nv15 p k % 256)])
theorem u8_mod15 (n : Nat) : UInt8.ofNat (n % 256) = UInt8.ofNat n := by
  apply UInt8.toNat_inj.1
  rw [UInt8.toNat_ofNat', UInt8.toNat_ofNat', Nat.mod_mod]
theorem Da.byk15_all (p : Pm15) : Da.byk15 p 6 = Da.byt15 p := by
  simp only [Da.byk15, Da.wd15, Da.nv15, Da.val15, Da.byt15]
  simp [u8_mod15]
theorem Da.nv15_le {p : Pm15} (h : Da.Right15 p) (k : Nat) (hk : k < 6) : Da.nv15 p k ≤ 10000 ∧ Da.val15 p (k + 1) = ((Da.nv15 p k : Nat) : Int) := by
  obtain ⟨h1, h2, h3, h4, h5, h6, h7, h8, h9, h10, h11, h12, h13⟩ := h
  unfold Da.nv15
  match k, hk with
  | 0, _ | 1, _ | 2, _ | 3, _ | 4, _ | 5, _ => simp only [Da.val15]; omega
  | n + 6, h => omega
theorem Da.byk15_len (p : Pm15) (k : Nat) (hk : k ≤ 6) : (Da.byk15 p k).length ≤ 2 * k := by
  induction k with
  | zero => simp [Da.byk15]
  | succ k ih =>
    have := ih (by omega)
    simp only [Da.byk15, List.length_append, List.length_cons, List.length_nil]
    split <;> simp <;> omega
theorem val_at0 (p : Pm15) (W : World) : (Instr.index 64 (.agg (pmA p)) (.int .i64 ((0 : Nat) : Int))).run Tryd.prog W = .ok (.int .i64 (Da.val15 p 1)) W := by kernel_rfl
theorem val_at1 (p : Pm15) (W : World) : (Instr.index 64 (.agg (pmA p)) (.int .i64 ((1 : Nat) : Int))).run Tryd.prog W = .ok (.int .i64 (Da.val15 p 2)) W := by kernel_rfl
theorem val_at2 (p : Pm15) (W : World) : (Instr.index 64 (.agg (pmA p)) (.int .i64 ((2 : Nat) : Int))).run Tryd.prog W = .ok (.int .i64 (Da.val15 p 3)) W := by kernel_rfl
theorem val_at3 (p : Pm15) (W : World) : (Instr.index 64 (.agg (pmA p)) (.int .i64 ((3 : Nat) : Int))).run Tryd.prog W = .ok (.int .i64 (Da.val15 p 4)) W := by kernel_rfl
theorem val_at4 (p : Pm15) (W : World) : (Instr.index 64 (.agg (pmA p)) (.int .i64 ((4 : Nat) : Int))).run Tryd.prog W = .ok (.int .i64 (Da.val15 p 5)) W := by kernel_rfl
theorem val_at5 (p : Pm15) (W : World) : (Instr.index 64 (.agg (pmA p)) (.int .i64 ((5 : Nat) : Int))).run Tryd.prog W = .ok (.int .i64 (Da.val15 p 6)) W := by kernel_rfl
theorem val_at (p : Pm15) (i : Nat) (hi : i < 6) (W : World) : (Instr.index 64 (.agg (pmA p)) (.int .i64 (i : Int))).run Tryd.prog W = .ok (.int .i64 (Da.val15 p (i + 1))) W := by
  match i, hi with
  | 0, _ => exact val_at0 p W
  | 1, _ => exact val_at1 p W
  | 2, _ => exact val_at2 p W
  | 3, _ => exact val_at3 p W
  | 4, _ => exact val_at4 p W
  | 5, _ => exact val_at5 p W
  | n + 6, h => omega
/-- the state between the rounds -/
def By15 (p : Pm15) (w : World) (v i : Value) (wr : World) : Prop :=
  ∃ k : Nat, k ≤ 6 ∧ i = .int .i64 (k : Int) ∧ wr.ownsRow w.heap.size 5 1 v (Da.byk15 p k).length (bytesV (Da.byk15 p k)) ∧ Below w.heap.size w wr
/-- a row of one byte, just built -/
theorem one_row15 (W : World) (x : UInt8) : RowIs (W.alloc (.cells #[.int .u8 (x.toNat : Int)] 5)) (some ⟨W.heap.size, 0, none⟩) (bytesV [x]) 1 :=
  ⟨by simp [bytesV], by decide, (fun e => by cases e), fun _ => ⟨W.heap.size, 0, rfl, by simp, fun i v hv => by
    rw [Nat.zero_add, (Arr.made W 5 [.int .u8 (x.toNat : Int)]).cell]; exact hv⟩⟩
set_option maxRecDepth 100000 in
set_option maxHeartbeats 4000000 in
theorem bytes15_any (A : Nat → Addr) (W0 : World) (p : Pm15) (hok : p.ok) (hE : E15 W0 A) (hWd : Wd15 W0) :
    Calls Tryd.prog 14 #[.agg (pmA p)] W0 fun e w' => ∃ o c v, e = .returned (.tuple #[.slice o (Da.bts15 p).length c, v]) ∧ RowIs w' o (bytesV (Da.bts15 p)) c ∧ WrV A p w' v ∧ Below W0.heap.size W0 w' := by
  obtain ⟨i0, hi0, hz0, hz1, hz2⟩ := info_parts info_u8
  obtain ⟨g, hg⟩ : ∃ g, W0.heap.size = g := ⟨_, rfl⟩
  obtain ⟨W1, hW1⟩ : ∃ W1, W0.alloc (.cells (pmA p) 23) = W1 := ⟨_, rfl⟩
  have hA1 : Arr W1 g 23 (pmL p) := by rw [← hW1, ← hg]; exact World.alloc_heap_new W0 _
  have hb1 : Below W0.heap.size W0 W1 := by rw [← hW1]; exact new12 _ _
  have HCK := Lib.hid (check15_any A W1 p hok (hE.later hb1))
  have HA1 := Lib.hid hA1
  have HB1 := Lib.hid hb1
  have HW1 := Lib.hid hW1
  have HG := Lib.hid hg
  have HWD := Lib.hid hWd
  clear hE hA1 hb1 hW1 hg hok hWd
  obtain ⟨P, hP⟩ : ∃ P, pmA p = P := ⟨_, rfl⟩
  rw [hP] at HCK HW1 ⊢
  have HP := Lib.hid hP
  clear hP
  go_enter Tryd.func14, Tryd.ntmps14
  go_upto_region 1 with fail
  rw [HW1.out, HG.out]
  apply wp_region_lit
  refine wpList_load_row rfl 23 (.tmp 1) rfl g rfl 23 P (0, 0) _ (by rw [← HP.out]; exact HA1.out) Tryd.underlying23 rfl (by rw [← HP.out]; exact pm15c_info) ?_
  (refine wpList_plain rfl (fun K hK => ?_); go_simp)
  refine HCK.out.mono ?_
  rintro e W2 ⟨v, rfl, hv, hb2⟩
  refine hK _ _ ?_
  clear hK K HCK
  have HA2 := Lib.hid (HA1.out.later hb2 HA1.out.lt)
  have HB2 := Lib.hid (Kit.step HB1.out hb2)
  clear hb2
  (refine wpList_plain rfl (fun K hK => ?_); go_simp; refine hK _ _ ?_; clear hK K)
  rcases hv with ⟨h0, rfl⟩ | ⟨h0, b, rfl, hw⟩
  · have HR := Lib.hid (Da.right15 h0)
    have H0 := Lib.hid h0
    have hq := neq_nil15
    clear h0
    go_upto_region 4 with fail
    apply wp_region_lit
    refine wpList_make_own _ rfl (.const (.int .i64 0)) (.const (.int .i64 9)) 36 rfl W2.heap.size 5 i0 _ 1 Tryd.underlying36 hi0 hz0 hz1 .i64 .i64 9 9 rfl rfl (by omega) (by rw [hz2]; omega) (by unfold maxLen; omega) (Nat.le_refl _) ?_
    intro W3 hown hgr
    have hb3 : Below W2.heap.size W2 W3 := ⟨hgr.os, hgr.tape, hgr.output, hgr.size, fun k hk => hgr.block k hk (by simp)⟩
    have HA3 := Lib.hid (HA2.out.later hb3 HA2.out.lt)
    have HB3 := Lib.hid hb3
    have HOWN := Lib.hid hown
    have HVA := Lib.hid (values15_any p W3)
    rw [HP.out] at HVA
    clear hown hgr hb3 hz0 hz1 hz2
    (refine wpList_plain rfl (fun K hK => ?_); go_simp; refine hK _ _ ?_; clear hK K)
    go_upto_region 5 with fail
    apply wp_region_lit
    refine wpList_load_row rfl 23 (.tmp 1) rfl g rfl 23 P (0, 0) _ (by rw [← HP.out]; exact HA3.out) Tryd.underlying23 rfl (by rw [← HP.out]; exact pm15c_info) ?_
    (refine wpList_plain rfl (fun K hK => ?_); go_simp)
    refine HVA.out.mono ?_
    rintro e W4 ⟨rfl, hb4⟩
    refine hK _ _ ?_
    clear hK K HVA
    have HO4 := Lib.hid (own_later15 HOWN.out hb4)
    have HB4 := Lib.hid (Kit.step HB3.out hb4)
    clear hb4
    (refine wpList_plain rfl (fun K hK => ?_); go_simp; refine hK _ _ ?_; clear hK K)
    go_wp2_with fail
    go_loopw [5, 16] (fun v iv wr => By15 p W2 v iv wr) (fun _ iv _ => 6 - (intOf iv).toNat)
    case atStart => exact ⟨0, by omega, rfl, HO4.out, HB4.out⟩
    case round =>
      obtain ⟨k, hk, rfl, hv, hb⟩ := hrel
      have HO := Lib.hid hv
      have HB := Lib.hid hb
      clear hv hb
      by_cases h6 : k < 6
      · have d0 : decide ((k : Int) < 6) = true := decide_eq_true (by omega)
        have hbd : 0 ≤ (k : Int) ∧ (k : Int) < 6 := by omega
        obtain ⟨hn1, hn2⟩ := Da.nv15_le HR.out k h6
        have hix := fun W => val_at p k h6 W
        rw [HP.out, hn2] at hix
        obtain ⟨n, hn⟩ : ∃ n, Da.nv15 p k = n := ⟨_, rfl⟩
        rw [hn] at hix hn1
        have hwc := wd15_cell (tabIs_later HWD.out (Kit.step HB2.out HB.out)) k h6
        have HN := Lib.hid hn
        have HN2 := Lib.hid hn2
        have HN1 := Lib.hid hn1
        clear hn hn2 hn1
        obtain ⟨x, hx⟩ : ∃ x, UInt8.ofNat (n % 256) = x := ⟨_, rfl⟩
        have hwx : IntKind.u8.wrap (n : Int) = (x.toNat : Int) := by
          rw [← hx, UInt8.toNat_ofNat', IntKind.wrap_u8]
          omega
        have hlen := Da.byk15_len p k hk
        have hw1 : IntKind.i64.wrap ((k : Int) + 1) = (k : Int) + 1 := by rw [IntKind.wrap_i64]; omega
        have HX := Lib.hid hx
        have HLN := Lib.hid hlen
        obtain ⟨Z, hZ⟩ : ∃ Z, Da.byk15 p k = Z := ⟨_, rfl⟩
        rw [hZ] at HO HLN
        have HZ := Lib.hid hZ
        clear hx hlen hZ
        rcases Da.wd15_or k with e | e
        · rw [e] at hwc
          have HST : Hid (Da.byk15 p (k + 1) = Z ++ [x]) := Lib.hid (by rw [Da.byk15, HZ.out, e, if_neg (by decide), HN.out, HX.out]; rfl)
          clear e
          go_upto_region 10 with fail
          apply wp_region_lit
          iterate 3 (refine wpList_plain rfl (fun K hK => ?_); go_simp; refine hK _ _ ?_; clear hK K)
          obtain ⟨Y1, hY1⟩ : ∃ Y, wr.alloc (.cells #[.int .u8 (x.toNat : Int)] 5) = Y := ⟨_, rfl⟩
          have hbY : Below wr.heap.size wr Y1 := by rw [← hY1]; exact new12 _ _
          have HRW1 : Hid (RowIs Y1 (some ⟨wr.heap.size, 0, none⟩) (bytesV [x]) 1) := Lib.hid (by rw [← hY1]; exact one_row15 _ _)
          have HOY1 := Lib.hid (own_later15 HO.out hbY)
          have HBY1 := Lib.hid (Kit.step HB.out hbY)
          have HY1 := Lib.hid hY1
          clear hY1 hbY
          (refine wpList_plain rfl (fun K hK => ?_); go_simp; refine hK _ _ ?_; clear hK K)
          rw [HY1.out]
          refine append_row rfl (.tmp 30) (.tmp 33) rfl W2.heap.size _ Z.length Z rfl HOY1.out (some ⟨wr.heap.size, 0, none⟩) 1 1 [x] rfl rfl HRW1.out (by have := HLN.out; omega) HBY1.out.size ?_
          intro v' W6 hown hgr
          have HOF : Hid (W6.ownsRow W2.heap.size 5 1 v' (Z ++ [x]).length (bytesV (Z ++ [x]))) := Lib.hid (by rw [List.length_append]; exact hown)
          have HBF := Lib.hid (own_below (n := 0) HBY1.out HOY1.out hgr)
          clear hown hgr
          (refine wpList_plain rfl (fun K hK => ?_); go_simp; refine hK _ _ ?_; clear hK K)
          go_wp2_with fail
          go_roundw
          -- STOP3
          case rel => exact ⟨k + 1, by omega, by go_num, by rw [HST.out]; exact HOF.out, HBF.out⟩
          case measure => simp [intOf]; omega
        · rw [e] at hwc
          obtain ⟨y, hy⟩ : ∃ y, UInt8.ofNat (n / 256) = y := ⟨_, rfl⟩
          have hwy : IntKind.u8.wrap ((n : Int) / 256) = (y.toNat : Int) := by
            have := HN1.out
            rw [← hy, UInt8.toNat_ofNat', IntKind.wrap_u8]
            omega
          have HST : Hid (Da.byk15 p (k + 1) = Z ++ [y] ++ [x]) := Lib.hid (by rw [Da.byk15, HZ.out, e, if_pos rfl, HN.out, HX.out, hy, List.append_assoc])
          clear e hy
          go_upto_region 9 with fail
          apply wp_region_lit
          iterate 4 (refine wpList_plain rfl (fun K hK => ?_); go_simp; refine hK _ _ ?_; clear hK K)
          obtain ⟨Y1, hY1⟩ : ∃ Y, wr.alloc (.cells #[.int .u8 (y.toNat : Int)] 5) = Y := ⟨_, rfl⟩
          have hbY : Below wr.heap.size wr Y1 := by rw [← hY1]; exact new12 _ _
          have HRW1 : Hid (RowIs Y1 (some ⟨wr.heap.size, 0, none⟩) (bytesV [y]) 1) := Lib.hid (by rw [← hY1]; exact one_row15 _ _)
          have HOY1 := Lib.hid (own_later15 HO.out hbY)
          have HBY1 := Lib.hid (Kit.step HB.out hbY)
          have HY1 := Lib.hid hY1
          clear hY1 hbY
          (refine wpList_plain rfl (fun K hK => ?_); go_simp; refine hK _ _ ?_; clear hK K)
          rw [HY1.out]
          refine append_row rfl (.tmp 24) (.tmp 28) rfl W2.heap.size _ Z.length Z rfl HOY1.out (some ⟨wr.heap.size, 0, none⟩) 1 1 [y] rfl rfl HRW1.out (by have := HLN.out; omega) HBY1.out.size ?_
          intro v1 W5 hown hgr
          have HO5 := Lib.hid hown
          have HB5 := Lib.hid (own_below (n := 0) HBY1.out HOY1.out hgr)
          clear hown hgr
          (refine wpList_plain rfl (fun K hK => ?_); go_simp; refine hK _ _ ?_; clear hK K)
          go_upto_region 10 with fail
          apply wp_region_lit
          iterate 3 (refine wpList_plain rfl (fun K hK => ?_); go_simp; refine hK _ _ ?_; clear hK K)
          obtain ⟨Y2, hY2⟩ : ∃ Y, W5.alloc (.cells #[.int .u8 (x.toNat : Int)] 5) = Y := ⟨_, rfl⟩
          have hbY : Below W5.heap.size W5 Y2 := by rw [← hY2]; exact new12 _ _
          have HRW2 : Hid (RowIs Y2 (some ⟨W5.heap.size, 0, none⟩) (bytesV [x]) 1) := Lib.hid (by rw [← hY2]; exact one_row15 _ _)
          have HOY2 := Lib.hid (own_later15 HO5.out hbY)
          have HBY2 := Lib.hid (Kit.step HB5.out hbY)
          have HY2 := Lib.hid hY2
          clear hY2 hbY
          (refine wpList_plain rfl (fun K hK => ?_); go_simp; refine hK _ _ ?_; clear hK K)
          rw [HY2.out]
          refine append_row rfl (.tmp 30) (.tmp 33) rfl W2.heap.size _ (Z.length + 1) (Z ++ [y]) rfl HOY2.out (some ⟨W5.heap.size, 0, none⟩) 1 1 [x] rfl rfl HRW2.out (by have := HLN.out; omega) HBY2.out.size ?_
          intro v' W6 hown hgr
          have HOF : Hid (W6.ownsRow W2.heap.size 5 1 v' (Z ++ [y] ++ [x]).length (bytesV (Z ++ [y] ++ [x]))) := Lib.hid (by rw [List.length_append, List.length_append]; exact hown)
          have HBF := Lib.hid (own_below (n := 0) HBY2.out HOY2.out hgr)
          clear hown hgr
          (refine wpList_plain rfl (fun K hK => ?_); go_simp; refine hK _ _ ?_; clear hK K)
          go_wp2_with fail
          go_roundw
          -- STOP3
          case rel => exact ⟨k + 1, by omega, by go_num, by rw [HST.out]; exact HOF.out, HBF.out⟩
          case measure => simp [intOf]; omega
      · have e6 : k = 6 := by omega
        have d0 : decide ((k : Int) < 6) = false := decide_eq_false (by omega)
        have hall : Da.byk15 p k = Da.bts15 p := by rw [e6, Da.byk15_all]; unfold Da.bts15; rw [if_pos H0.out]
        have hO := HO.out
        rw [hall] at hO
        obtain ⟨o, c, hsl, hrow⟩ := owns_rv hO rfl
        subst hsl
        have HRO := Lib.hid hrow
        clear hO hall e6 hrow
        go_wp2_with fail
        -- STOP4
        go_ret2
        exact ⟨o, c, _, rfl, HRO.out, .inl ⟨H0.out, rfl⟩, Kit.step HB2.out HB.out⟩
  · have HW := Lib.hid hw
    have H0 := Lib.hid h0
    have hq := neq_wr15 b
    have hbt : Da.bts15 p = [] := by unfold Da.bts15; rw [if_neg h0]
    have HBT := Lib.hid hbt
    unfold wr15 at hq ⊢
    clear hw h0 hz0 hz1 hz2 hi0 hbt
    go_wp2_with fail
    go_ret2
    rw [HBT.out]
    exact ⟨none, 0, _, rfl, ⟨by simp [bytesV], Nat.zero_le _, fun _ => rfl, fun h => by simp [bytesV] at h⟩, .inr ⟨H0.out, b, rfl, HW.out⟩, HB2.out⟩
end Go.Proofs.YtomkkkbdipcjgaaDoor
namespace Go.Proofs.YtomkkkbdipcjgaaDoor
open Go.RowKit
set_option linter.unusedVariables false
set_option linter.unusedSimpArgs false
def Da.pos15 (k : Nat) : Nat := match k with
  | 0 => 0
  | 1 => 2
  | 2 => 3
  | 3 => 4
  | 4 => 6
  | 5 => 8
  | _ => 9
theorem Da.pos15_succ (k : Nat) (hk : k < 6) : Da.pos15 (k + 1) = Da.pos15 k + Da.wd15 k := by
  match k, hk with
  | 0, _ | 1, _ | 2, _ | 3, _ | 4, _ | 5, _ => rfl
  | n + 6, h => omega
theorem Da.pos15_lt (k : Nat) (hk : k < 6) : Da.pos15 k < 9 := by
  match k, hk with
  | 0, _ | 1, _ | 2, _ | 3, _ | 4, _ | 5, _ => decide
  | n + 6, h => omega
theorem Da.pos15_le (k : Nat) : Da.pos15 k ≤ 9 := by
  unfold Da.pos15
  split <;> omega
/-- the number of the first bytes behind a place -/
def Da.acc15 (b : List UInt8) (q : Nat) : Nat → Nat
  | 0 => 0
  | j + 1 => Da.acc15 b q j * 256 + (b.getD (q + j) 0).toNat
theorem Da.acc15_val (b : List UInt8) (k : Nat) (hk : k < 6) : ((Da.acc15 b (Da.pos15 k) (Da.wd15 k) : Nat) : Int) = Da.val15 (Da.prs15 b) (k + 1) := by
  match k, hk with
  | 0, _ | 1, _ | 2, _ | 3, _ | 4, _ | 5, _ => simp [Da.acc15, Da.pos15, Da.wd15, Da.val15, Da.prs15]
  | n + 6, h => omega
/-- the values of the first fields -/
def ptl15 (b : List UInt8) (k : Nat) : List Value :=
  [.int .i64 (if 0 < k then Da.val15 (Da.prs15 b) 1 else 0), .int .i64 (if 1 < k then Da.val15 (Da.prs15 b) 2 else 0), .int .i64 (if 2 < k then Da.val15 (Da.prs15 b) 3 else 0), .int .i64 (if 3 < k then Da.val15 (Da.prs15 b) 4 else 0), .int .i64 (if 4 < k then Da.val15 (Da.prs15 b) 5 else 0), .int .i64 (if 5 < k then Da.val15 (Da.prs15 b) 6 else 0)]
theorem ptl15_zero (b : List UInt8) : ptl15 b 0 = [.int .i64 0, .int .i64 0, .int .i64 0, .int .i64 0, .int .i64 0, .int .i64 0] := rfl
theorem ptl15_all (b : List UInt8) : ptl15 b 6 = pmL (Da.prs15 b) := by simp [ptl15, pmL, Da.val15]
theorem ptl15_at (b : List UInt8) (k : Nat) (hk : k < 6) : (ptl15 b k).set k (.int .i64 0) = ptl15 b k := by
  match k, hk with
  | 0, _ | 1, _ | 2, _ | 3, _ | 4, _ | 5, _ => simp [ptl15]
  | n + 6, h => omega
theorem ptl15_succ (b : List UInt8) (k : Nat) (hk : k < 6) : (ptl15 b k).set k (.int .i64 (Da.val15 (Da.prs15 b) (k + 1))) = ptl15 b (k + 1) := by
  match k, hk with
  | 0, _ | 1, _ | 2, _ | 3, _ | 4, _ | 5, _ => simp [ptl15]
  | n + 6, h => omega
def wdA15 : Array Value := #[.int .i64 2, .int .i64 1, .int .i64 1, .int .i64 2, .int .i64 2, .int .i64 1]
theorem wd15_range {W : World} (h : Wd15 W) : W.rangeAt 20 0 [.int .i64 2, .int .i64 1, .int .i64 1, .int .i64 2, .int .i64 2, .int .i64 1] := fun j v hv => by
  have hg : Tryd.prog.globalNamed "bailee/params.widths" = some 20 := by kernel_rfl
  rw [Nat.zero_add, World.var?_cell hg h j]
  simpa [Da.wid15] using hv
theorem wid_at0 (W : World) : (Instr.index 64 (.agg wdA15) (.int .i64 ((0 : Nat) : Int))).run Tryd.prog W = .ok (.int .i64 ((Da.wd15 0 : Nat) : Int)) W := by kernel_rfl
theorem wid_at1 (W : World) : (Instr.index 64 (.agg wdA15) (.int .i64 ((1 : Nat) : Int))).run Tryd.prog W = .ok (.int .i64 ((Da.wd15 1 : Nat) : Int)) W := by kernel_rfl
theorem wid_at2 (W : World) : (Instr.index 64 (.agg wdA15) (.int .i64 ((2 : Nat) : Int))).run Tryd.prog W = .ok (.int .i64 ((Da.wd15 2 : Nat) : Int)) W := by kernel_rfl
theorem wid_at3 (W : World) : (Instr.index 64 (.agg wdA15) (.int .i64 ((3 : Nat) : Int))).run Tryd.prog W = .ok (.int .i64 ((Da.wd15 3 : Nat) : Int)) W := by kernel_rfl
theorem wid_at4 (W : World) : (Instr.index 64 (.agg wdA15) (.int .i64 ((4 : Nat) : Int))).run Tryd.prog W = .ok (.int .i64 ((Da.wd15 4 : Nat) : Int)) W := by kernel_rfl
theorem wid_at5 (W : World) : (Instr.index 64 (.agg wdA15) (.int .i64 ((5 : Nat) : Int))).run Tryd.prog W = .ok (.int .i64 ((Da.wd15 5 : Nat) : Int)) W := by kernel_rfl
theorem wid_at (i : Nat) (hi : i < 6) (W : World) : (Instr.index 64 (.agg wdA15) (.int .i64 (i : Int))).run Tryd.prog W = .ok (.int .i64 ((Da.wd15 i : Nat) : Int)) W := by
  match i, hi with
  | 0, _ => exact wid_at0 W
  | 1, _ => exact wid_at1 W
  | 2, _ => exact wid_at2 W
  | 3, _ => exact wid_at3 W
  | 4, _ => exact wid_at4 W
  | 5, _ => exact wid_at5 W
  | n + 6, h => omega
def z6V : Array Value := #[.int .i64 0, .int .i64 0, .int .i64 0, .int .i64 0, .int .i64 0, .int .i64 0]
/-- the state between the rounds -/
def Ps15 (b : List UInt8) (b1 off1 c : Nat) (w : World) (g gv : Nat) (v0 v17 : Value) (wr : World) : Prop :=
  ∃ k : Nat, k ≤ 6 ∧ v17 = .int .i64 (k : Int) ∧ (k < 6 → v0 = .slice (some ⟨b1, off1 + Da.pos15 k, none⟩) (9 - Da.pos15 k) (c - Da.pos15 k)) ∧ Arr wr gv 64 (ptl15 b k) ∧ Arr wr g 23 z6V.toList ∧ Below w.heap.size w wr
/-- the state within a round -/
def Pi15 (b : List UInt8) (k m : Nat) (w : World) (g gv : Nat) (v25 : Value) (wr : World) : Prop :=
  ∃ j : Nat, j ≤ m ∧ v25 = .int .i64 (j : Int) ∧ Arr wr gv 64 ((ptl15 b k).set k (.int .i64 ((Da.acc15 b (Da.pos15 k) j : Nat) : Int))) ∧ Arr wr g 23 z6V.toList ∧ Below w.heap.size w wr
theorem or15 (a x : Nat) (ha : a < 256) (hx : x < 256) : bits .or .i64 (wrap64 ((a : Int) * 256)) (x : Int) = ((a * 256 + x : Nat) : Int) := by
  have e : wrap64 ((a : Int) * 256) = ((a * 256 : Nat) : Int) := by rw [IntWalk.wrap64_in _ ⟨by omega, by omega⟩]; omega
  rw [e, or64 _ _ (by omega) (by omega)]
  congr 1
  have := Nat.two_pow_add_eq_or_of_lt (i := 8) (b := x) hx a
  rw [Nat.mul_comm a 256]
  exact this.symm
theorem Da.acc15_lt (b : List UInt8) (q j : Nat) (hj : j ≤ 1) : Da.acc15 b q j < 256 := by
  match j, hj with
  | 0, _ => simp [Da.acc15]
  | 1, _ => simp only [Da.acc15, Nat.zero_mul, Nat.zero_add]; exact UInt8.toNat_lt _
  | n + 2, h => omega
theorem prs15_ok (b : List UInt8) : (Da.prs15 b).ok := by
  have h := fun i => UInt8.toNat_lt (b.getD i 0)
  have h0 := h 0
  have h1 := h 1
  have h2 := h 2
  have h3 := h 3
  have h4 := h 4
  have h5 := h 5
  have h6 := h 6
  have h7 := h 7
  have h8 := h 8
  constructor <;> (unfold in64 Da.prs15; dsimp only; omega)
set_option maxRecDepth 100000 in
set_option maxHeartbeats 4000000 in
theorem parse15_nine (A : Nat → Addr) (W0 : World) (b : List UInt8) (o : Option Addr) (c : Nat) (hR : RowIs W0 o (bytesV b) c) (h9 : b.length = 9) (hE : E15 W0 A) (hWd : Wd15 W0) :
    Calls Tryd.prog 21 #[.slice o 9 c] W0 fun e w' => ∃ v, e = .returned (.tuple #[.agg (pmA (Da.out15 b)), v]) ∧ PrV A b w' v ∧ Below W0.heap.size W0 w' := by
  obtain ⟨b1, off1, rfl, hlt, hcl⟩ := hR.cells (by rw [bytesV_length]; omega)
  have hle := hR.le
  have hcap := hR.cap
  simp only [bytesV_length, h9] at hle
  unfold maxLen at hcap
  obtain ⟨g, hg⟩ : ∃ g, W0.heap.size = g := ⟨_, rfl⟩
  obtain ⟨W1, hW1⟩ : ∃ W1, W0.alloc (.cells z6V 23) = W1 := ⟨_, rfl⟩
  obtain ⟨gv, hgv⟩ : ∃ gv, W1.heap.size = gv := ⟨_, rfl⟩
  obtain ⟨W2, hW2⟩ : ∃ W2, W1.alloc (.cells z6V 64) = W2 := ⟨_, rfl⟩
  have hA1 : Arr W1 g 23 z6V.toList := by rw [← hW1, ← hg]; exact World.alloc_heap_new W0 _
  have hb1 : Below W0.heap.size W0 W1 := by rw [← hW1]; exact new12 _ _
  have hA2 : Arr W2 gv 64 (ptl15 b 0) := by rw [← hW2, ← hgv]; exact World.alloc_heap_new W1 _
  have hb2 : Below W1.heap.size W1 W2 := by rw [← hW2]; exact new12 _ _
  have hG2 := hA1.later hb2 hA1.lt
  have hB2 := Kit.step hb1 hb2
  have hne : g ≠ gv := by rw [← hg, ← hgv, ← hW1]; simp
  have hgl : W0.heap.size ≤ g := Nat.le_of_eq hg
  have hgvl : W0.heap.size ≤ gv := by rw [← hgv]; exact hb1.size
  have HRG := Lib.hid (wd15_range (tabIs_later hWd hB2))
  have HG := Lib.hid hg
  have HGV := Lib.hid hgv
  have HA2 := Lib.hid hA2
  have HG2 := Lib.hid hG2
  have HB2 := Lib.hid hB2
  have HE := Lib.hid hE
  have HNE := Lib.hid hne
  have HCL := Lib.hid hcl
  have HLT := Lib.hid hlt
  have H9 := Lib.hid h9
  have HGL := Lib.hid hgl
  have HGVL := Lib.hid hgvl
  have HI6 : Hid ((Tryd.prog.info? 64).map (·.size) = some ([.int .i64 2, .int .i64 1, .int .i64 1, .int .i64 2, .int .i64 2, .int .i64 1] : List Value).length) := Lib.hid i6_info
  unfold z6V at hW1 hW2
  have HW1 := Lib.hid hW1
  have HW2 := Lib.hid hW2
  obtain ⟨Q, hQ⟩ : ∃ Q, Da.out15 b = Q := ⟨_, rfl⟩
  rw [hQ]
  have HQ := Lib.hid hQ
  clear hg hW1 hgv hW2 hA1 hb1 hA2 hb2 hG2 hB2 hne hE hWd hcl hlt h9 hR hgl hgvl hQ
  go_enter Tryd.func21, Tryd.ntmps21
  go_upto_region 1 with fail
  rw [HW1.out, HG.out]
  go_upto_region 4 with fail
  rw [HW2.out, HGV.out]
  apply wp_region_lit
  refine wpList_load_mid rfl 64 (.global 20) rfl 20 0 rfl [.int .i64 2, .int .i64 1, .int .i64 1, .int .i64 2, .int .i64 2, .int .i64 1] _ HRG.out Tryd.underlying64 rfl HI6.out ?_
  obtain ⟨WA, hWA⟩ : ∃ WA, wdA15 = WA := ⟨_, rfl⟩
  rw [show ([.int .i64 2, .int .i64 1, .int .i64 1, .int .i64 2, .int .i64 2, .int .i64 1] : List Value).toArray = WA from hWA]
  have HWA := Lib.hid hWA
  clear hWA
  (refine wpList_plain rfl (fun K hK => ?_); go_simp; refine hK _ _ ?_; clear hK K)
  go_wp2_with fail
  -- STOP1
  go_loopw [0, 17] (fun v0 v17 wr => Ps15 b b1 off1 c W0 g gv v0 v17 wr) (fun _ iv _ => 6 - (intOf iv).toNat)
  case atStart => exact ⟨0, by omega, rfl, fun _ => by simp [Da.pos15], HA2.out, HG2.out, HB2.out⟩
  case round =>
    obtain ⟨k, hk, rfl, hv0, hav, hag, hb⟩ := hrel
    have HAV := Lib.hid hav
    have HAG := Lib.hid hag
    have HB := Lib.hid hb
    clear hav hag hb
    by_cases h6 : k < 6
    · have d0 : decide ((k : Int) < 6) = true := decide_eq_true (by omega)
      have hix := fun W => wid_at k h6 W
      rw [HWA.out] at hix
      obtain rfl := hv0 h6
      clear hv0
      have hps := Da.pos15_succ k h6
      have hpl := Da.pos15_le (k + 1)
      have hm12 := Da.wd15_or k
      obtain ⟨m, hm⟩ : ∃ m, Da.wd15 k = m := ⟨_, rfl⟩
      obtain ⟨q, hqq⟩ : ∃ q, Da.pos15 k = q := ⟨_, rfl⟩
      rw [hm] at hix hps hm12
      rw [hqq] at hps ⊢
      obtain ⟨C, hC⟩ : ∃ C, c - q = C := ⟨_, rfl⟩
      obtain ⟨L, hL⟩ : ∃ L, 9 - q = L := ⟨_, rfl⟩
      rw [hC, hL]
      have hmC : m ≤ C := by omega
      have hmL : m ≤ L := by omega
      have HM := Lib.hid hm
      have HQQ := Lib.hid hqq
      have HC := Lib.hid hC
      have HL := Lib.hid hL
      have HPS := Lib.hid hps
      have HPL := Lib.hid hpl
      have HM12 := Lib.hid hm12
      have hcap2 : C ≤ 9223372036854775807 := by omega
      clear hm hqq hC hL hps hpl hm12
      go_upto_region 7 with fail
      -- STOP2
      go_wp2_with fail
      -- STOP3
      go_loopw [25] (fun v25 wr => Pi15 b k m W0 g gv v25 wr) (fun iv _ => m - (intOf iv).toNat)
      case atStart => exact ⟨0, by omega, rfl, by show Arr wr gv 64 ((ptl15 b k).set k (.int .i64 0)); rw [ptl15_at b k h6]; exact HAV.out, HAG.out, HB.out⟩
      case round =>
        obtain ⟨j, hj, rfl, hav, hag, hb⟩ := hrel
        rw [HQQ.out] at hav
        obtain ⟨a, ha⟩ : ∃ a, Da.acc15 b q j = a := ⟨_, rfl⟩
        rw [ha] at hav
        by_cases hjm : j < m
        · have dj : decide ((j : Int) < (m : Int)) = true := decide_eq_true (by omega)
          have dj2 : decide (j < m) = true := decide_eq_true hjm
          have hbd : 0 ≤ (j : Int) ∧ (j : Int) < (m : Int) := by omega
          have hbk : 0 ≤ (k : Int) ∧ (k : Int) < 6 := by omega
          obtain ⟨x, hx⟩ : ∃ x, b.getD (q + j) 0 = x := ⟨_, rfl⟩
          have hxb := UInt8.toNat_lt x
          have hc1 : wr.cell? ⟨b1, off1 + q + j, none⟩ = some (.int .u8 (x.toNat : Int)) := by
            have hl : q + j < b.length := by rw [H9.out]; have := HPS.out; have := HPL.out; omega
            rw [hb.cell (p := ⟨b1, off1 + q + j, none⟩) HLT.out, Nat.add_assoc, HCL.out (q + j) _ (by simp [bytesV, hl]; rfl)]
            simp [← hx, List.getD, hl]
          have hc2 : wr.cell? ⟨gv, k, none⟩ = some (.int .i64 (a : Int)) := by
            rw [hav.cell, List.getElem?_set_self (by show k < 6; exact h6)]
          have hal : a < 256 := by rw [← ha]; exact Da.acc15_lt b q j (by have := HM12.out; omega)
          have hor := or15 a x.toNat hal hxb
          have hfz : wr.frozen? ⟨gv, k, none⟩ = false := hav.frozen k
          obtain ⟨N, hN⟩ : ∃ N, a * 256 + x.toNat = N := ⟨_, rfl⟩
          rw [hN] at hor
          have hac : Da.acc15 b q (j + 1) = N := by rw [Da.acc15, ha, hx, hN]
          have HAC := Lib.hid hac
          have HAV2 := Lib.hid hav
          have HAG2 := Lib.hid hag
          have HBI := Lib.hid hb
          clear hac hav hag hb ha hx hal hN
          go_wp2_with fail
          -- STOP5
          refine ⟨⟨j + 1, by omega, by go_num, ?_, HAG2.out.ne HAV2.out HNE.out k _, HBI.out.setCell (p := ⟨gv, k, none⟩) HGVL.out _⟩, by simp [intOf]; omega⟩
          rw [HQQ.out, HAC.out]
          have := HAV2.out.set k (.int .i64 (N : Int))
          rw [List.set_set] at this
          exact this
        · have em : j = m := by omega
          subst em
          have HAC := Lib.hid ha
          have HAV2 := Lib.hid hav
          have HAG2 := Lib.hid hag
          have HBI := Lib.hid hb
          clear ha hav hag hb
          have dj : decide ((j : Int) < (j : Int)) = false := decide_eq_false (by omega)
          have dj2 : decide (j < j) = false := decide_eq_false (by omega)
          go_upto_region 12 with fail
          -- STOP6
          go_wp2_with fail
          -- STOP7
          refine ⟨⟨k + 1, by omega, by go_num, fun h => ?_, ?_, HAG2.out, HBI.out⟩, by simp [intOf]; omega⟩
          · have hp := Da.pos15_lt (k + 1) h
            have h1 := HPS.out
            have h2 := HC.out
            rw [if_neg (by omega), h1, ← HL.out, ← HC.out, Nat.sub_sub, Nat.sub_sub, Nat.add_assoc]
          · have hv := Da.acc15_val b k h6
            rw [HQQ.out, HM.out, HAC.out] at hv
            rw [← ptl15_succ b k h6, ← hv]
            exact HAV2.out
    · have e6 : k = 6 := by omega
      subst e6
      clear hv0
      have d0 : decide (((6 : Nat) : Int) < 6) = false := by decide
      obtain ⟨p, hp⟩ : ∃ p, Da.prs15 b = p := ⟨_, rfl⟩
      have hpok : p.ok := by rw [← hp]; exact prs15_ok b
      have hav : Arr wr gv 64 (pmL p) := by rw [← hp, ← ptl15_all]; exact HAV.out
      have HP := Lib.hid hp
      have HOK := Lib.hid hpok
      have HOF := Lib.hid (ofValues15_any p wr)
      obtain ⟨P, hP⟩ : ∃ P, pmA p = P := ⟨_, rfl⟩
      have HAP : Hid (wr.heap[gv]? = some (.cells P 64 (0, 0))) := Lib.hid (by rw [← hP]; exact hav)
      have HI1 : Hid ((Tryd.prog.info? 64).map (·.size) = some P.size) := Lib.hid (by rw [← hP]; exact i6_info)
      have HI2 : Hid ((Tryd.prog.info? 23).map (·.size) = some P.size) := Lib.hid (by rw [← hP]; exact pm15c_info)
      have HI3 : Hid ((#[.int .i64 0, .int .i64 0, .int .i64 0, .int .i64 0, .int .i64 0, .int .i64 0] : Array Value).size = P.size) := Lib.hid (by rw [← hP]; rfl)
      have HI4 : Hid (P.all (·.oneCell') = true) := Lib.hid (by rw [← hP]; exact pm15_oneCell _)
      rw [hP] at HOF
      have HPP := Lib.hid hP
      clear hp hpok hav hP
      go_upto_region 14 with fail
      apply wp_region_lit
      refine wpList_load_row rfl 64 (.tmp 4) rfl gv rfl 64 P (0, 0) _ HAP.out Tryd.underlying64 rfl HI1.out ?_
      (refine wpList_plain rfl (fun K hK => ?_); go_simp)
      refine HOF.out.mono ?_
      rintro e W3 ⟨rfl, hb3⟩
      refine hK _ _ ?_
      clear hK K HOF
      have HG3 := Lib.hid (HAG.out.later hb3 HAG.out.lt)
      have HB3 := Lib.hid (Kit.step HB.out hb3)
      obtain ⟨g9, hg9⟩ : ∃ g9, W3.heap.size = g9 := ⟨_, rfl⟩
      obtain ⟨W4, hW4⟩ : ∃ W4, W3.alloc (.cells #[.int .i64 0, .int .i64 0, .int .i64 0, .int .i64 0, .int .i64 0, .int .i64 0] 23) = W4 := ⟨_, rfl⟩
      have hz4 : W4.heap[g9]? = some (.cells #[.int .i64 0, .int .i64 0, .int .i64 0, .int .i64 0, .int .i64 0, .int .i64 0] 23 (0, 0)) := by rw [← hW4, ← hg9]; exact World.alloc_heap_new W3 _
      obtain ⟨W5, hW5⟩ : ∃ W5, W4.setRow g9 P = W5 := ⟨_, rfl⟩
      have hA5 : W5.heap[g9]? = some (.cells P 23 (0, 0)) := by rw [← hW5]; exact setRow_heap _ _ _ _ _ _ hz4
      have hb5 : Below W3.heap.size W3 W5 := by rw [← hW5, ← hW4]; exact (new12 _ _).trans (below_row (Nat.le_of_eq hg9))
      have HA5 := Lib.hid hA5
      have HG5 := Lib.hid (HG3.out.later hb5 HG3.out.lt)
      have HB5 := Lib.hid (Kit.step HB3.out hb5)
      have HZ4 := Lib.hid hz4
      have HW4 := Lib.hid hW4
      have HW5 := Lib.hid hW5
      have HG9 := Lib.hid hg9
      have hck := check15_any A W5 p HOK.out (HE.out.later HB5.out)
      rw [HPP.out] at hck
      have HCK := Lib.hid hck
      clear hb3 hg9 hW4 hz4 hW5 hA5 hb5 hck
      (refine wpList_plain rfl (fun K hK => ?_); go_simp; refine hK _ _ ?_; clear hK K)
      rw [HW4.out, HG9.out]
      refine wpList_store_row rfl 23 (.tmp 9) (.tmp 44) rfl g9 P rfl rfl 23 _ HZ4.out HI2.out HI3.out HI4.out ?_
      rw [HW5.out]
      go_upto_region 15 with fail
      apply wp_region_lit
      refine wpList_load_row rfl 23 (.tmp 9) rfl g9 rfl 23 P (0, 0) _ HA5.out Tryd.underlying23 rfl HI2.out ?_
      (refine wpList_plain rfl (fun K hK => ?_); go_simp)
      refine HCK.out.mono ?_
      rintro e W6 ⟨v, rfl, hv, hb6⟩
      refine hK _ _ ?_
      clear hK K HCK
      have HA6 := Lib.hid ((hb6.block g9 (Array.getElem?_eq_some_iff.1 HA5.out).1).trans HA5.out)
      have HG6 := Lib.hid (HG5.out.later hb6 HG5.out.lt)
      have HB6 := Lib.hid (Kit.step HB5.out hb6)
      clear hb6
      (refine wpList_plain rfl (fun K hK => ?_); go_simp; refine hK _ _ ?_; clear hK K)
      have HI5 : Hid (z6V.size = P.size) := Lib.hid HI3.out
      rcases hv with ⟨h0, rfl⟩ | ⟨h0, be, rfl, hw⟩
      · have hq := neq_nil15
        have hout : pmA Q = P := by
          rw [← HQ.out, ← HPP.out]
          unfold Da.out15 Da.prn15
          rw [if_pos H9.out, HP.out, h0, if_pos (show Da.err15 0 = 0 from rfl)]
        obtain ⟨W7, hW7⟩ : ∃ W7, W6.setRow g P = W7 := ⟨_, rfl⟩
        have hA7 : W7.heap[g]? = some (.cells P 23 (0, 0)) := by rw [← hW7]; exact setRow_heap _ _ _ _ _ _ HG6.out
        have hb7 : Below W0.heap.size W0 W7 := by rw [← hW7]; exact HB6.out.trans (below_row HGL.out)
        have HA7 := Lib.hid hA7
        have HB7 := Lib.hid hb7
        have HW7 := Lib.hid hW7
        have HOUT := Lib.hid hout
        have H0 := Lib.hid h0
        clear hout hA7 hb7 hW7 h0
        go_upto_region 18 with fail
        apply wp_region_lit
        refine wpList_load_row rfl 23 (.tmp 9) rfl g9 rfl 23 P (0, 0) _ HA6.out Tryd.underlying23 rfl HI2.out ?_
        refine wpList_store_row rfl 23 (.tmp 2) (.tmp 51) rfl g P rfl rfl 23 _ HG6.out HI2.out HI5.out HI4.out ?_
        rw [HW7.out]
        (refine wpList_plain rfl (fun K hK => ?_); go_simp; refine hK _ _ ?_; clear hK K)
        go_wp2_with fail
        -- STOP9
        refine bodyPost_ret (results_cell_row2 rfl _ _ g 23 P (0, 0) _ rfl HA7.out Tryd.underlying23 rfl HI2.out) rfl ?_
        rw [HOUT.out]
        exact ⟨_, rfl, .inl ⟨H9.out, .inl ⟨by rw [HP.out]; exact H0.out, rfl⟩⟩, HB7.out⟩
      · have hq := neq_wr15 be
        have hout : pmA Q = z6V := by
          rw [← HQ.out]
          unfold Da.out15 Da.prn15
          rw [if_pos H9.out, HP.out, if_neg (fun e => h0 ((Da.err15_zero (Da.bad15_le p)).1 e))]
          rfl
        obtain ⟨W7, hW7⟩ : ∃ W7, W6.setRow g z6V = W7 := ⟨_, rfl⟩
        have hA7 : W7.heap[g]? = some (.cells z6V 23 (0, 0)) := by rw [← hW7]; exact setRow_heap _ _ _ _ _ _ HG6.out
        have hb7' : Below W6.heap.size W6 W6 := Below.refl _ _
        have hb7 : Below W0.heap.size W0 W7 := by rw [← hW7]; exact HB6.out.trans (below_row HGL.out)
        have hlt : be ≠ g := fun e => by
          have h1 := HG6.out
          have h2 := hw
          unfold Arr at h1
          unfold WrAt at h2
          rw [e, h1] at h2
          injection h2 with h2
          injection h2 with _ h2 _
          exact absurd h2 (by decide)
        have hw7 : WrAt W7 be (Da.fld15 (Da.bad15 p)) (Da.val15 p (Da.bad15 p)) (sn15 A (Da.err15 (Da.bad15 p))) := by
          rw [← hW7]
          exact (setRow_other _ _ _ _ hlt).trans hw
        have HA7 := Lib.hid hA7
        have HB7 := Lib.hid hb7
        have HW7 := Lib.hid hW7
        have HOUT := Lib.hid hout
        have H0 := Lib.hid h0
        have HWW := Lib.hid hw7
        unfold wr15 at hq ⊢
        clear hout hA7 hb7 hb7' hW7 h0 hlt hw7 hw
        go_upto_region 17 with fail
        apply wp_region_lit
        (refine wpList_plain rfl (fun K hK => ?_); go_simp; refine hK _ _ ?_; clear hK K)
        (refine wpList_plain rfl (fun K hK => ?_); go_simp; refine hK _ _ ?_; clear hK K)
        refine wpList_store_row rfl 23 (.tmp 2) (.tmp 49) rfl g z6V rfl rfl 23 _ HG6.out pm15c_info rfl (by simp [z6V, Value.oneCell']) ?_
        rw [HW7.out]
        (refine wpList_plain rfl (fun K hK => ?_); go_simp; refine hK _ _ ?_; clear hK K)
        go_wp2_with fail
        refine bodyPost_ret (results_cell_row2 rfl _ _ g 23 z6V (0, 0) _ rfl HA7.out Tryd.underlying23 rfl pm15c_info) rfl ?_
        rw [HOUT.out]
        exact ⟨_, rfl, .inl ⟨H9.out, .inr ⟨by rw [HP.out]; exact H0.out, be, rfl, by rw [HP.out]; exact HWW.out⟩⟩, HB7.out⟩
end Go.Proofs.YtomkkkbdipcjgaaDoor
namespace Go.Proofs.YtomkkkbdipcjgaaDoor
open Go.RowKit
set_option linter.unusedVariables false
set_option linter.unusedSimpArgs false
/-- the deferred function, where nothing panics -/
theorem idle15 (b : Nat) (w : World) :
    CallsD Tryd.prog 38 #[.pointer (some ⟨b, 0, none⟩)] .returning w fun e u' w' => e = .returned (.tuple #[]) ∧ u' = .returning ∧ w' = w := by
  refine callsD_of_wpS Tryd.func38 rfl fun c₀ cs hu => ?_
  apply wpS_seq
  apply wpS_region
  simp [wpOpsS, go_sem, recoverD, hu, Tryd.ntmps38, Exit.thenS]
  refine wpS_cond (t := false) (by simp [Act.eval, Array.replicate]) ?_
  simp only [Bool.false_eq_true, if_false]
  refine wpS_of_wp (wp_skip ?_)
  cases c₀
  simp_all [bodyPostS, results, Tryd.results38]
set_option maxHeartbeats 1000000 in
/-- what wrongIn finds, told by what errors.As lays into a variable that holds nil -/
theorem wrongIn15 (x : Value) (r : Option Addr) (w : World)
    (hAs : ∀ W, Below w.heap.size w W → W.cell? ⟨w.heap.size, 0, none⟩ = some (.pointer none) → W.frozen? ⟨w.heap.size, 0, none⟩ = false → Calls Tryd.prog 39 #[x, .iface 79 (.pointer (some ⟨w.heap.size, 0, none⟩))] W fun ev w' => (∃ bb, ev = .returned (.bool bb)) ∧ w'.cell? ⟨w.heap.size, 0, none⟩ = some (.pointer r) ∧ w'.frozen? ⟨w.heap.size, 0, none⟩ = false ∧ Below w.heap.size w w') :
    Calls Tryd.prog 32 #[x] w fun e w' => e = .returned (.pointer r) ∧ Below w.heap.size w w' := by
  obtain ⟨g, hg⟩ : ∃ g, w.heap.size = g := ⟨_, rfl⟩
  obtain ⟨W1, hW1⟩ : ∃ W1, w.alloc (.cells #[.pointer none] 56) = W1 := ⟨_, rfl⟩
  have hb1 : Below w.heap.size w W1 := by rw [← hW1]; exact new12 _ _
  have hmf : ∀ (fn : Fn) (first cap : Array Value) (w : World), (Instr.makeFunc fn first cap).run Tryd.prog w = .ok (.func fn first cap) w := fun _ _ _ _ => rfl
  have hA := hAs W1 hb1 (by rw [← hW1]; simp) (by rw [← hW1]; simp)
  rw [hg] at hA
  have HA := Lib.hid hA
  have HB1 := Lib.hid hb1
  have HG := Lib.hid hg
  have HW1 := Lib.hid hW1
  clear hAs hg hW1 hb1 hA
  go_enter_defers Tryd.func32, Tryd.ntmps32
  go_wp2_with fail
  rw [HW1.out, HG.out]
  refine HA.out.mono ?_
  rintro e W2 ⟨⟨bb, rfl⟩, hc, hz, hb2⟩
  obtain ⟨W3, hW3⟩ : ∃ W3, W2.setCell ⟨g, 0, none⟩ (.pointer r) = W3 := ⟨_, rfl⟩
  have hc3 : W3.cell? ⟨g, 0, none⟩ = some (.pointer r) := by rw [← hW3]; exact World.cell?_setCell_same _ _ _ hc
  have hb3 : Below g w W3 := by rw [← hW3]; exact hb2.setCell (p := ⟨g, 0, none⟩) (Nat.le_refl _) _
  have HW3 := Lib.hid hW3
  have HC3 := Lib.hid hc3
  have HB3 := Lib.hid hb3
  clear hW3 hc3 hb3 hb2
  go_wp2_with fail
  -- STOP3
  rw [HW3.out]
  refine leaves_cons (f := 38) (args := #[.pointer (some ⟨g, 0, none⟩)]) (by simp) (by simp [go_sem]) ?_
  refine (idle15 g _).mono ?_
  rintro e u' w'' ⟨rfl, rfl, rfl⟩
  have hc3 := HC3.out
  -- STOP4
  simp [Leaves, settle, results, Tryd.results32, go_sem, hc3]
  -- STOP5
  rw [HG.out]
  exact HB3.out
set_option maxHeartbeats 1000000 in
theorem field15_none (x : Value) (w : World) (h : Calls Tryd.prog 32 #[x] w fun e w' => e = .returned (.pointer none) ∧ Below w.heap.size w w') :
    Calls Tryd.prog 10 #[x] w fun e w' => e = .returned (.tuple #[txt15 [], .int .i64 0, .bool false]) ∧ Below w.heap.size w w' := by
  have H := Lib.hid h
  clear h
  go_enter Tryd.func10, Tryd.ntmps10
  go_wp2_with fail
  refine H.out.mono ?_
  rintro e W1 ⟨rfl, hb1⟩
  go_wp2_with fail
  refine bodyPost_ret (results_tmp3 rfl _ _ _) rfl ?_
  exact ⟨rfl, hb1⟩
set_option maxHeartbeats 1000000 in
theorem field15_some (x : Value) (b : Nat) (f : List UInt8) (n : Int) (v : Value) (w : World) (hW : WrAt w b f n v) (h : Calls Tryd.prog 32 #[x] w fun e w' => e = .returned (.pointer (some ⟨b, 0, none⟩)) ∧ Below w.heap.size w w') :
    Calls Tryd.prog 10 #[x] w fun e w' => e = .returned (.tuple #[txt15 f, .int .i64 n, .bool true]) ∧ Below w.heap.size w w' := by
  have H := Lib.hid h
  have HW := Lib.hid hW
  clear h hW
  obtain ⟨F, hF⟩ : ∃ F : ByteArray, (⟨f.toArray⟩ : ByteArray) = F := ⟨_, rfl⟩
  have HF := Lib.hid hF
  clear hF
  go_enter Tryd.func10, Tryd.ntmps10
  go_wp2_with fail
  refine H.out.mono ?_
  rintro e W1 ⟨rfl, hb1⟩
  have hw1 := HW.out.later hb1
  have hc0 : W1.cell? ⟨b, 0, none⟩ = some (.string F) := by unfold World.cell?; rw [show W1.heap[b]? = _ from hw1]; unfold txt15; rw [HF.out]; rfl
  have hc1 : W1.cell? ⟨b, 1, none⟩ = some (.int .i64 n) := by unfold World.cell?; rw [show W1.heap[b]? = _ from hw1]; rfl
  have HB1 := Lib.hid hb1
  clear hw1 hb1
  go_upto_region 4 with fail
  go_quiet (fail)
  go_wp2_with fail
  -- STOP6
  refine bodyPost_ret (results_tmp3 rfl _ _ _) rfl ?_
  unfold txt15
  rw [HF.out]
  first | exact ⟨rfl, Kit.step HB1.out (Kit.dn' _ _)⟩ | exact ⟨rfl, HB1.out.drew⟩
theorem field15_nil (w : World) : Calls Tryd.prog 10 #[.nilIface] w fun e w' => e = .returned (.tuple #[txt15 [], .int .i64 0, .bool false]) ∧ Below w.heap.size w w' := by
  refine field15_none _ w (wrongIn15 _ none w fun W hb hc hz => (Er.as_nil15 _ W).mono ?_)
  rintro e w' ⟨rfl, rfl⟩
  exact ⟨⟨_, rfl⟩, hc, hz, hb⟩
theorem cell_lt15b {W : World} {a : Addr} {v : Value} (h : W.cell? a = some v) : a.block < W.heap.size := cell_lt15 h
theorem field15_wr (w : World) (b : Nat) (f : List UInt8) (n : Int) (v : Value) (h : WrAt w b f n v) (hT : Er.EType w) : Calls Tryd.prog 10 #[wr15 b] w fun e w' => e = .returned (.tuple #[txt15 f, .int .i64 n, .bool true]) ∧ Below w.heap.size w w' := by
  refine field15_some _ b f n v w h (wrongIn15 _ (some ⟨b, 0, none⟩) w fun W hb hc hz => (Er.as_hit15 ⟨b, 0, none⟩ ⟨w.heap.size, 0, none⟩ _ W (hT.later hb) hc hz rfl).mono ?_)
  rintro e w' ⟨rfl, w1, hb1, rfl⟩
  have hlt := cell_lt15b hc
  have hc1 : w1.cell? ⟨w.heap.size, 0, none⟩ = some (.pointer none) := (hb1.cell hlt).trans hc
  refine ⟨⟨_, rfl⟩, World.cell?_setCell_same _ _ _ hc1, ?_, (Kit.step hb hb1).setCell (p := ⟨w.heap.size, 0, none⟩) (Nat.le_refl _) _⟩
  rw [World.frozen?_setCell, hb1.frozen hlt]
  exact hz
theorem field15_no (w : World) (a : Addr) (hT : Er.EType w) : Calls Tryd.prog 10 #[.iface 127 (.pointer (some a))] w fun e w' => e = .returned (.tuple #[txt15 [], .int .i64 0, .bool false]) ∧ Below w.heap.size w w' := by
  refine field15_none _ w (wrongIn15 _ none w fun W hb hc hz => (Er.as_miss15 a ⟨w.heap.size, 0, none⟩ _ W (hT.later hb) hc hz rfl).mono ?_)
  rintro e w' ⟨rfl, hb1⟩
  have hlt := cell_lt15b hc
  exact ⟨⟨_, rfl⟩, (hb1.cell hlt).trans hc, (hb1.frozen hlt).trans hz, Kit.step hb hb1⟩
end Go.Proofs.YtomkkkbdipcjgaaDoor
namespace Go.Proofs.YtomkkkbdipcjgaaDoor
open Go.RowKit
set_option linter.unusedVariables false
set_option linter.unusedSimpArgs false
theorem below_grow15 (w : World) (k : Nat) (os : Array Obj) : Below w.heap.size w (Go.Sort.grow (w.drewN k) os) :=
  ⟨rfl, rfl, rfl, by show w.heap.size ≤ (w.heap ++ os).size; rw [Array.size_append]; omega, fun j hj => by show (w.heap ++ os)[j]? = w.heap[j]?; exact Array.getElem?_append_left hj⟩
theorem itoa15 (n : Int) (hn : in64 n) (w : World) (hP : P10 w) : Calls Tryd.prog 37 #[.int .i64 n] w fun e w' => e = .returned (.string ⟨(Lib.itoa n).toArray⟩) ∧ Below w.heap.size w w' := by
  refine (strconv_Itoa n hn.1 hn.2 w hP).mono ?_
  rintro e w' ⟨rfl, k, os, rfl⟩
  exact ⟨rfl, below_grow15 w k os⟩
set_option maxRecDepth 100000 in
set_option maxHeartbeats 1000000 in
theorem error15_any (w : World) (b : Nat) (f : List UInt8) (n : Int) (v : Value) (hW : WrAt w b f n v) (hf : f.length ≤ 100) (hn : in64 n) (hP : P10 w) :
    Calls Tryd.prog 27 #[.pointer (some ⟨b, 0, none⟩)] w fun e w' => e = .returned (txt15 (f ++ 32 :: Lib.itoa n)) ∧ Below w.heap.size w w' := by
  have hlen := Lib.itoa_length_le n hn.1 hn.2
  obtain ⟨F, hF⟩ : ∃ F : ByteArray, (⟨f.toArray⟩ : ByteArray) = F := ⟨_, rfl⟩
  obtain ⟨FB, hFB⟩ : ∃ FB : ByteArray, (⟨(f ++ [32]).toArray⟩ : ByteArray) = FB := ⟨_, rfl⟩
  obtain ⟨S, hS⟩ : ∃ S : ByteArray, (⟨(Lib.itoa n).toArray⟩ : ByteArray) = S := ⟨_, rfl⟩
  obtain ⟨R, hR⟩ : ∃ R : ByteArray, (⟨(f ++ 32 :: Lib.itoa n).toArray⟩ : ByteArray) = R := ⟨_, rfl⟩
  have ha1 : ∀ W, (Op.stringOp .add F ⟨#[32]⟩).run Tryd.prog W = .ok (.string FB) W := fun W => by
    have h := run_string_add_sum (P := Tryd.prog) W F ⟨#[32]⟩ (by rw [← hF]; show f.toArray.size + 1 ≤ _; simp only [List.size_toArray]; omega)
    rw [h, ← hF, ← hFB]
    congr 2
    try (apply ByteArray.ext; simp)
  have ha2 : ∀ W, (Op.stringOp .add FB S).run Tryd.prog W = .ok (.string R) W := fun W => by
    have h := run_string_add_sum (P := Tryd.prog) W FB S (by rw [← hFB, ← hS]; show (f ++ [32]).toArray.size + (Lib.itoa n).toArray.size ≤ _; simp only [List.size_toArray, List.length_append, List.length_singleton]; omega)
    rw [h, ← hFB, ← hS, ← hR]
    congr 2
    try (apply ByteArray.ext; simp)
  obtain ⟨C, hC⟩ : ∃ C : World → Prop, (fun v => Below w.heap.size w v) = C := ⟨_, rfl⟩
  have hCm : ∀ v, C v → Below w.heap.size w v := fun v hv => by rw [← hC] at hv; exact hv
  have hCi : ∀ v, Below w.heap.size w v → C v := fun v hv => by rw [← hC]; exact hv
  have hC0 : C { w with drawn := w.drawn + 1 } := hCi _ (Kit.dn' w 1)
  have hF0 : ∀ v, C v → v.cell? ⟨b, 0, none⟩ = some (.string F) := fun u hu => by
    have h := hW.later (hCm u hu)
    unfold World.cell?
    rw [show u.heap[b]? = _ from h, ← hF]
    rfl
  have hF1 : ∀ v, C v → v.cell? ⟨b, 1, none⟩ = some (.int .i64 n) := fun u hu => by
    have h := hW.later (hCm u hu)
    unfold World.cell?
    rw [show u.heap[b]? = _ from h]
    rfl
  have HIT : Hid (∀ u, Below w.heap.size w u → Calls Tryd.prog 37 #[.int .i64 n] u fun e w' => e = .returned (.string S) ∧ Below w.heap.size w w') := Lib.hid fun u hu => by
    refine (itoa15 n hn u (tabIs_later hP hu)).mono ?_
    rintro e w' ⟨rfl, hb⟩
    exact ⟨by rw [hS], Kit.step hu hb⟩
  have HCm := Lib.hid hCm
  have HCi := Lib.hid hCi
  have HF0 := Lib.hid hF0
  have HF1 := Lib.hid hF1
  have HR := Lib.hid hR
  clear hlen hF hFB hS hR hC hCm hCi hF0 hF1 hW hf hn hP
  go_enter Tryd.func27, Tryd.ntmps27
  go_upto_region 1 with fail
  -- STOP1
  refine wp_region_quiet (C := C) (by kernel_rfl) (by kernel_rfl) hC0 ?_
  simp only
  (refine wpQuiet_step (fun K hK => ?_); refine St.qk_val (x := ?_) (by rfl) (fun w hw => ?_) ?_; rotate_left; (· go_simp <;> with_reducible rfl); go_simp; refine hK _ ?_; clear hK K)
  (refine wpQuiet_step (fun K hK => ?_); refine St.qk_val (x := ?_) (by rfl) (fun w hw => ?_) ?_; rotate_left; (· go_simp <;> with_reducible rfl); go_simp; refine hK _ ?_; clear hK K)
  (refine wpQuiet_step (fun K hK => ?_); refine St.qk_val (x := ?_) (by rfl) (fun w hw => ?_) ?_; rotate_left; (· go_simp <;> with_reducible rfl); go_simp; refine hK _ ?_; clear hK K)
  (refine wpQuiet_step (fun K hK => ?_); refine St.qk_val (x := .string F) (by rfl) (fun w hw => by have hc := HF0.out w hw; go_simp) ?_; go_simp; refine hK _ ?_; clear hK K)
  (refine wpQuiet_step (fun K hK => ?_); refine St.qk_val (x := ?_) (by rfl) (fun w hw => ?_) ?_; rotate_left; (· go_simp <;> with_reducible rfl); go_simp; refine hK _ ?_; clear hK K)
  (refine wpQuiet_step (fun K hK => ?_); refine St.qk_val (x := ?_) (by rfl) (fun w hw => ?_) ?_; rotate_left; (· go_simp <;> with_reducible rfl); go_simp; refine hK _ ?_; clear hK K)
  (refine wpQuiet_step (fun K hK => ?_); refine St.qk_val (x := ?_) (by rfl) (fun w hw => ?_) ?_; rotate_left; (· go_simp <;> with_reducible rfl); go_simp; refine hK _ ?_; clear hK K)
  (refine wpQuiet_step (fun K hK => ?_); refine St.qk_val (x := ?_) (by rfl) (fun w hw => ?_) ?_; rotate_left; (· go_simp <;> with_reducible rfl); go_simp; refine hK _ ?_; clear hK K)
  (refine wpQuiet_step (fun K hK => ?_); refine St.qk_val (x := .int .i64 n) (by rfl) (fun w hw => by have hc := HF1.out w hw; go_simp) ?_; go_simp; refine hK _ ?_; clear hK K)
  (refine wpQuiet_step (fun K hK => ?_); refine St.qk_call (by rfl) 37 _ _ rfl #[.int .i64 n] (by go_simp) (fun w => by simp [go_sem]) (.string S) (fun v hv => (HIT.out v (HCm.out v hv)).mono (fun e w' h => ⟨h.1, HCi.out _ h.2⟩)) ?_; go_simp; refine hK _ ?_; clear hK K)
  (refine wpQuiet_step (fun K hK => ?_); refine St.qk_val (x := ?_) (by rfl) (fun w hw => ?_) ?_; rotate_left; (· go_simp <;> with_reducible rfl); go_simp; refine hK _ ?_; clear hK K)
  (refine wpQuiet_step (fun K hK => ?_); refine St.qk_val (x := ?_) (by rfl) (fun w hw => ?_) ?_; rotate_left; (· go_simp <;> with_reducible rfl); go_simp; refine hK _ ?_; clear hK K)
  refine wpQuiet_nil ?_
  intro W7 hW7
  -- STOP2
  go_wp2_with fail
  go_ret
  unfold txt15
  rw [HR.out]
  exact ⟨rfl, HCm.out _ hW7⟩
end Go.Proofs.YtomkkkbdipcjgaaDoor
namespace Go.Proofs.YtomkkkbdipcjgaaDoor
open Go.RowKit
set_option linter.unusedVariables false
set_option linter.unusedSimpArgs false
set_option maxRecDepth 100000 in
set_option maxHeartbeats 2000000 in
theorem parse15_len (A : Nat → Addr) (W0 : World) (n : Nat) (o : Option Addr) (c : Nat) (h9 : n ≠ 9) (hl : n ≤ 60) (hE : E15 W0 A) :
    Calls Tryd.prog 21 #[.slice o n c] W0 fun e w' => e = .returned (.tuple #[.agg (pmA Da.zero15), sn15 A 8]) ∧ Below W0.heap.size W0 w' := by
  have hq : ((n : Int) != 9) = true := by rw [bne_iff_ne]; omega
  have hq2 : ((n : Int) == 9) = false := by rw [beq_eq_false_iff_ne]; omega
  have hc7 : ∀ o1, (W0.alloc o1).cell? ⟨7, 0, none⟩ = some (.iface 127 (.pointer (some (A 7)))) := fun o1 => (hE.later (new12 W0 o1)).c7
  have hb : Below W0.heap.size W0 (W0.alloc (.cells z6V 23)) := new12 _ _
  have hA : (W0.alloc (.cells z6V 23)).heap[W0.heap.size]? = some (.cells z6V 23 (0, 0)) := World.alloc_heap_new _ _
  have HB := Lib.hid hb
  have HA := Lib.hid hA
  clear hb hA hE
  go_enter Tryd.func21, Tryd.ntmps21
  go_upto_region 2 with fail
  go_region
  all_goals go_wp2_with fail
  -- STOP1
  all_goals refine bodyPost_ret (results_cell_row2 rfl _ _ W0.heap.size 23 z6V (0, 0) _ rfl HA.out Tryd.underlying23 rfl pm15c_info) rfl ?_
  all_goals exact ⟨rfl, Kit.dn HB.out _⟩
theorem parse15_any (A : Nat → Addr) (W0 : World) (b : List UInt8) (o : Option Addr) (c : Nat) (hR : RowIs W0 o (bytesV b) c) (hl : b.length ≤ 60) (hE : E15 W0 A) (hWd : Wd15 W0) :
    Calls Tryd.prog 21 #[.slice o b.length c] W0 fun e w' => ∃ v, e = .returned (.tuple #[.agg (pmA (Da.out15 b)), v]) ∧ PrV A b w' v ∧ Below W0.heap.size W0 w' := by
  by_cases h9 : b.length = 9
  · have h := parse15_nine A W0 b o c hR h9 hE hWd
    rw [h9]
    exact h
  · refine (parse15_len A W0 b.length o c h9 hl hE).mono ?_
    rintro e w' ⟨rfl, hb⟩
    have ho : Da.out15 b = Da.zero15 := by
      unfold Da.out15 Da.prn15
      rw [if_neg h9, if_neg (by decide)]
    rw [ho]
    exact ⟨_, rfl, .inr ⟨h9, rfl⟩, hb⟩
theorem pac15 (A : Nat → Addr) : PaC A :=
  ⟨check15_any A, stored15_any A, fun W n => default15_any n W, Er.unwrap_any, error15_any, plain15_any A, bytes15_any A, parse15_any A, window15_any A, budget15_any A, fun W _ => field15_nil W, fun W b f n v h hT => field15_wr W b f n v h hT, fun W a hT => field15_no W a hT⟩
end Go.Proofs.YtomkkkbdipcjgaaDoor
