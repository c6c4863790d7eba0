/- Cg15 -/
import Derived.Test.YtffheegeaghfjaaGreatDoorPl15
import Derived.BigQuiet
import Derived.Defers
import Derived.Recover
import Derived.Laws.Pointers
import Derived.Test.YtffheegeaghfjaaGreatDoorIt15
import Derived.Lib.ItoaLen
set_option linter.unusedVariables false
set_option linter.unusedSimpArgs false
set_option maxRecDepth 100000
set_option maxHeartbeats 8000000
namespace Go.Proofs.YtffheegeaghfjaaGreatDoor
open Go.RowKit
theorem i6_info : (Tryz.prog.info? 131).map (·.size) = some 6 := by kernel_rfl
theorem heap_new2 (w : World) (o1 : Obj) (xs : Array Value) (t : TypeId) : ((w.alloc o1).alloc (.cells xs t)).heap[w.heap.size + 1]? = some (.cells xs t (0, 0)) := by
 have h := World.alloc_heap_new (w.alloc o1) (.cells xs t)
 have e : (w.alloc o1).heap.size = w.heap.size + 1 := by simp
 rw [e] at h
 exact h
theorem values15_any (p : Pm15) (w : World) : Calls Tryz.prog 69 #[.agg (pmA p)] w fun e w' => e = .returned (.agg (pmA p)) /\ Below w.heap.size w w' := by
 obtain ⟨g, hg⟩ : ∃ g, w.heap.size = g := ⟨_, rfl⟩
 obtain ⟨W2, hW2⟩ : ∃ W2, (w.alloc (.cells (pmA p) 24)).alloc (.cells (pmA p) 131) = W2 := ⟨_, rfl⟩
 have hA : W2.heap[g + 1]? = some (.cells (pmA p) 131 (0, 0)) := by rw [<- hW2, <- hg]; exact heap_new2 _ _ _ _
 have hb : Below w.heap.size w W2 := by rw [<- hW2]; exact Ks (new12 _ _) (new12 _ _)
 rw [hg] at hb
 have HB := Lh hb
 have HA := Lh hA
 have HG := Lh hg
 obtain ⟨sz, se, sp, pe, pa, re⟩ := p
 unfold pmA at hW2 ⊢
 dsimp only at hW2 ⊢
 have HW2 := Lh hW2
 clear hb hA hW2 hg
 go_enter Tryz.func69, Tryz.ntmps69
 go_wp2_with fail
 rw [HW2.out, HG.out]
 refine bodyPost_ret (results_cell_row rfl _ _ (g + 1) 131 _ (0, 0) _ rfl HA.out Tryz.underlying131 rfl i6_info) rfl ?_
 exact ⟨rfl, HB.out⟩
def bndA (A : Nat -> Addr) (p : Pm15) : Array Value := #[txt15 (Da.fld15 1), .int .i64 0, .int .i64 2000, sn15 A 8, txt15 (Da.fld15 2), .int .i64 0, .int .i64 8, sn15 A 18, txt15 (Da.fld15 3), .int .i64 1, .int .i64 12, sn15 A 1, txt15 (Da.fld15 4), .int .i64 1, .int .i64 10000, sn15 A 1, txt15 (Da.fld15 5), .int .i64 1, .int .i64 p.pe, sn15 A 1, txt15 (Da.fld15 6), .int .i64 0, .int .i64 5, sn15 A 1]
theorem bnd_info : (Tryz.prog.info? 135).map (·.size) = some 24 := by kernel_rfl
def bndZ : Array Value := #[.string ⟨#[]⟩, .int .i64 0, .int .i64 0, .nilIface, .string ⟨#[]⟩, .int .i64 0, .int .i64 0, .nilIface, .string ⟨#[]⟩, .int .i64 0, .int .i64 0, .nilIface, .string ⟨#[]⟩, .int .i64 0, .int .i64 0, .nilIface, .string ⟨#[]⟩, .int .i64 0, .int .i64 0, .nilIface, .string ⟨#[]⟩, .int .i64 0, .int .i64 0, .nilIface]
theorem bounds15_any (A : Nat -> Addr) (p : Pm15) (w : World) (hE : E15 w A) : Calls Tryz.prog 70 #[.agg (pmA p)] w fun e w' => e = .returned (.agg (bndA A p)) /\ Below w.heap.size w w' := by
 obtain ⟨g, hg⟩ : ∃ g, w.heap.size = g := ⟨_, rfl⟩
 obtain ⟨Z, hZ⟩ : ∃ Z : Array Value, bndZ = Z := ⟨_, rfl⟩
 obtain ⟨W2, hW2⟩ : ∃ W2, (w.alloc (.cells (pmA p) 24)).alloc (.cells Z 135) = W2 := ⟨_, rfl⟩
 have hz : W2.heap[g + 1]? = some (.cells Z 135 (0, 0)) := by rw [<- hW2, <- hg]; exact heap_new2 _ _ _ _
 have hb2 : Below w.heap.size w W2 := by rw [<- hW2]; exact Ks (new12 _ _) (new12 _ _)
 have hpe : W2.cell? ⟨g, 3, none⟩ = some (.int .i64 p.pe) := by
  rw [<- hW2, <- hg, (new12 (w.alloc (.cells (pmA p) 24)) _).cell (by simp)]
  unfold World.cell?
  rw [World.alloc_heap_new]
  rfl
 obtain ⟨C, hC⟩ : ∃ C, bndA A p = C := ⟨_, rfl⟩
 obtain ⟨W3, hW3⟩ : ∃ W3, W2.setRow (g + 1) C = W3 := ⟨_, rfl⟩
 have hA : W3.heap[g + 1]? = some (.cells C 135 (0, 0)) := by rw [<- hW3]; exact setRow_heap _ _ _ _ _ _ hz
 have hb : Below w.heap.size w W3 := by rw [<- hW3]; exact hb2.trans (below_row (by omega))
 rw [hg] at hb
 have hE2 := hE.later hb2
 have c0 := hE2.c0
 have c7 := hE2.c7
 have c17 := hE2.c17
 have hsz : (Tryz.prog.info? 135).map (·.size) = some C.size := by rw [bnd_info, <- hC]; rfl
 have hone : C.all (·.oneCell') = true := by rw [<- hC]; simp [bndA, txt15, sn15, Value.oneCell']
 have HB := Lh hb
 have HA := Lh hA
 have HG := Lh hg
 have HZ := Lh hz
 have HSZ := Lh hsz
 have HZS : Hid (Z.size = C.size) := Lh (by rw [<- hZ, <- hC]; rfl)
 have HON := Lh hone
 rw [<- hZ] at hW2
 obtain ⟨sz, se, sp, pe, pa, re⟩ := p
 unfold bndA txt15 sn15 at hC
 unfold pmA at hW2 ⊢
 unfold bndZ at hW2
 dsimp only [Da.fld15, Nat.reduceSub] at hW2 hC hpe ⊢
 have HW2 := Lh hW2
 have HW3 := Lh hW3
 have HC := Lh hC
 clear hb hA hW2 hg hE hE2 hZ hz hb2 hC hW3 hsz hone
 go_enter Tryz.func70, Tryz.ntmps70
 go_upto_region 1 with fail
 rw [HW2.out, HG.out]
 apply wp_region_lit
 repeat (refine wpList_plain rfl (fun K hK => ?_); go_simp; refine hK _ _ ?_; clear hK K)
 refine wpList_store_row rfl 135 (.tmp 2) (.tmp 17) rfl (g + 1) C rfl (by rw [<- HC.out]; rfl) 135 Z HZ.out HSZ.out HZS.out HON.out ?_
 rw [HW3.out]
 go_wp2_with fail
 refine bodyPost_ret (results_cell_row rfl _ _ (g + 1) 135 _ (0, 0) _ rfl HA.out Tryz.underlying135 rfl HSZ.out) rfl ?_
 exact ⟨by rw [<- HC.out]; rfl, by rw [HG.out]; exact HB.out⟩
theorem Da.tot15_ge (n : Int) : 32 <= Da.tot15 n := by
 unfold Da.tot15 totN shpN
 split <;> simp only [List.length_cons, List.length_nil] <;> omega
def Da.lo15 (i : Nat) : Int := match i with
 | 0 => 0
 | 1 => 0
 | 2 => 1
 | 3 => 1
 | 4 => 1
 | _ => 0
def Da.hi15 (p : Pm15) (i : Nat) : Int := match i with
 | 0 => 2000
 | 1 => 8
 | 2 => 12
 | 3 => 10000
 | 4 => p.pe
 | _ => 5
def Da.in15 (p : Pm15) (i : Nat) : Prop := Da.lo15 i <= Da.val15 p (i + 1) /\ Da.val15 p (i + 1) <= Da.hi15 p i
theorem Da.bad15_at {p : Pm15} {i : Nat} (hi : i < 6) (h : ∀ j, j < i -> Da.in15 p j) (hn : ¬ Da.in15 p i) : Da.bad15 p = i + 1 := by
 have ht := Da.tot15_ge p.sz
 have g : ∀ j, j < i -> Da.lo15 j <= Da.val15 p (j + 1) /\ Da.val15 p (j + 1) <= Da.hi15 p j := h
 unfold Da.in15 at hn
 match i, hi with
 | 0, _ =>
  simp only [Da.lo15, Da.hi15, Da.val15] at hn
  unfold Da.bad15
  rw [if_pos (by omega)]
 | 1, _ =>
  have g0 := g 0 (by omega)
  simp only [Da.lo15, Da.hi15, Da.val15] at hn g0
  unfold Da.bad15
  rw [if_neg (by omega), if_pos (by omega)]
 | 2, _ =>
  have g0 := g 0 (by omega)
  have g1 := g 1 (by omega)
  simp only [Da.lo15, Da.hi15, Da.val15] at hn g0 g1
  unfold Da.bad15
  rw [if_neg (by omega), if_neg (by omega), if_pos (by omega)]
 | 3, _ =>
  have g0 := g 0 (by omega)
  have g1 := g 1 (by omega)
  have g2 := g 2 (by omega)
  simp only [Da.lo15, Da.hi15, Da.val15] at hn g0 g1 g2
  unfold Da.bad15
  rw [if_neg (by omega), if_neg (by omega), if_neg (by omega), if_pos (by omega)]
 | 4, _ =>
  have g0 := g 0 (by omega)
  have g1 := g 1 (by omega)
  have g2 := g 2 (by omega)
  have g3 := g 3 (by omega)
  simp only [Da.lo15, Da.hi15, Da.val15] at hn g0 g1 g2 g3
  unfold Da.bad15
  rw [if_neg (by omega), if_neg (by omega), if_neg (by omega), if_neg (by omega), if_pos (by omega)]
 | 5, _ =>
  have g0 := g 0 (by omega)
  have g1 := g 1 (by omega)
  have g2 := g 2 (by omega)
  have g3 := g 3 (by omega)
  have g4 := g 4 (by omega)
  simp only [Da.lo15, Da.hi15, Da.val15] at hn g0 g1 g2 g3 g4
  unfold Da.bad15
  rw [if_neg (by omega), if_neg (by omega), if_neg (by omega), if_neg (by omega), if_neg (by omega), if_pos (by omega)]
 | n + 6, h => omega
theorem Da.bad15_none {p : Pm15} (g : ∀ j, j < 6 -> Da.in15 p j) : Da.bad15 p = 0 := by
 have ht := Da.tot15_ge p.sz
 have g0 := g 0 (by omega)
 have g1 := g 1 (by omega)
 have g2 := g 2 (by omega)
 have g3 := g 3 (by omega)
 have g4 := g 4 (by omega)
 have g5 := g 5 (by omega)
 simp only [Da.in15, Da.lo15, Da.hi15, Da.val15] at g0 g1 g2 g3 g4 g5
 unfold Da.bad15
 rw [if_neg (by omega), if_neg (by omega), if_neg (by omega), if_neg (by omega), if_neg (by omega), if_neg (by omega)]
theorem pmL_at (p : Pm15) (i : Nat) (hi : i < 6) : (pmL p)[i]? = some (.int .i64 (Da.val15 p (i + 1))) := by
 match i, hi with
 | 0, _ | 1, _ | 2, _ | 3, _ | 4, _ | 5, _ => rfl
 | n + 6, h => omega
theorem bound_info : (Tryz.prog.info? 134).map (·.size) = some 4 := by kernel_rfl
def bnd15 (A : Nat -> Addr) (p : Pm15) (i : Nat) : Array Value := #[txt15 (Da.fld15 (i + 1)), .int .i64 (Da.lo15 i), .int .i64 (Da.hi15 p i), sn15 A (Da.err15 (i + 1))]
theorem bnd_at0 (A : Nat -> Addr) (p : Pm15) (W : World) : (Instr.index 135 (.agg (bndA A p)) (.int .i64 ((0 : Nat) : Int))).run Tryz.prog W = .ok (.agg (bnd15 A p 0)) W := by kernel_rfl
theorem bnd_at1 (A : Nat -> Addr) (p : Pm15) (W : World) : (Instr.index 135 (.agg (bndA A p)) (.int .i64 ((1 : Nat) : Int))).run Tryz.prog W = .ok (.agg (bnd15 A p 1)) W := by kernel_rfl
theorem bnd_at2 (A : Nat -> Addr) (p : Pm15) (W : World) : (Instr.index 135 (.agg (bndA A p)) (.int .i64 ((2 : Nat) : Int))).run Tryz.prog W = .ok (.agg (bnd15 A p 2)) W := by kernel_rfl
theorem bnd_at3 (A : Nat -> Addr) (p : Pm15) (W : World) : (Instr.index 135 (.agg (bndA A p)) (.int .i64 ((3 : Nat) : Int))).run Tryz.prog W = .ok (.agg (bnd15 A p 3)) W := by kernel_rfl
theorem bnd_at4 (A : Nat -> Addr) (p : Pm15) (W : World) : (Instr.index 135 (.agg (bndA A p)) (.int .i64 ((4 : Nat) : Int))).run Tryz.prog W = .ok (.agg (bnd15 A p 4)) W := by kernel_rfl
theorem bnd_at5 (A : Nat -> Addr) (p : Pm15) (W : World) : (Instr.index 135 (.agg (bndA A p)) (.int .i64 ((5 : Nat) : Int))).run Tryz.prog W = .ok (.agg (bnd15 A p 5)) W := by kernel_rfl
theorem bnd_at (A : Nat -> Addr) (p : Pm15) (i : Nat) (hi : i < 6) (W : World) : (Instr.index 135 (.agg (bndA A p)) (.int .i64 (i : Int))).run Tryz.prog W = .ok (.agg (bnd15 A p i)) W := by
 match i, hi with
 | 0, _ => exact bnd_at0 A p W
 | 1, _ => exact bnd_at1 A p W
 | 2, _ => exact bnd_at2 A p W
 | 3, _ => exact bnd_at3 A p W
 | 4, _ => exact bnd_at4 A p W
 | 5, _ => exact bnd_at5 A p W
 | n + 6, h => omega
structure Ck15 (A : Nat -> Addr) (p : Pm15) (w : World) (g gv : Nat) (v10 : Value) (W : World) : Prop where
 ex : ∃ i : Nat, i <= 6 /\ v10 = .int .i64 (i : Int) /\ (∀ j, j < i -> Da.in15 p j)
 av : Arr W gv 131 (pmL p)
 b : Below w.heap.size w W
theorem check15_any (A : Nat -> Addr) (W0 : World) (p : Pm15) (hok : p.ok) (hE : E15 W0 A) :
    Calls Tryz.prog 33 #[.agg (pmA p)] W0 fun e w' => ∃ v, e = .returned v /\ WrV A p w' v /\ Below W0.heap.size W0 w' := by
 obtain ⟨g, hg⟩ : ∃ g, W0.heap.size = g := ⟨_, rfl⟩
 obtain ⟨W1, hW1⟩ : ∃ W1, W0.alloc (.cells (pmA p) 24) = W1 := ⟨_, rfl⟩
 have hA1 : Arr W1 g 24 (pmL p) := by rw [<- hW1, <- hg]; exact World.alloc_heap_new W0 _
 have hb1 : Below W0.heap.size W0 W1 := by rw [<- hW1]; exact new12 _ _
 have HV := Lh (values15_any p W1)
 have HE := Lh hE
 have HA1 := Lh hA1
 have HB1 := Lh hb1
 have HW1 := Lh hW1
 have HG := Lh hg
 have HOK := Lh hok
 clear hE hA1 hb1 hW1 hg hok
 obtain ⟨P, hP⟩ : ∃ P, pmA p = P := ⟨_, rfl⟩
 rw [hP] at HV HW1 ⊢
 have HP := Lh hP
 clear hP
 go_enter Tryz.func33, Tryz.ntmps33
 go_upto_region 1 with fail
 rw [HW1.out, HG.out]
 apply wp_region_lit
 refine wpList_load_row rfl 24 (.tmp 1) rfl g rfl 24 P (0, 0) _ (by rw [<- HP.out]; exact HA1.out) Tryz.underlying24 rfl (by rw [<- HP.out]; exact pm15c_info) ?_
 (refine wpList_plain rfl (fun K hK => ?_); go_simp)
 refine HV.out.mono ?_
 rintro e W2 ⟨rfl, hb2⟩
 refine hK _ _ ?_
 clear hK K HV
 obtain ⟨gv, hgv⟩ : ∃ gv, W2.heap.size = gv := ⟨_, rfl⟩
 obtain ⟨W3, hW3⟩ : ∃ W3, W2.alloc (.cells #[.int .i64 0, .int .i64 0, .int .i64 0, .int .i64 0, .int .i64 0, .int .i64 0] 131) = W3 := ⟨_, rfl⟩
 have hz3 : W3.heap[gv]? = some (.cells #[.int .i64 0, .int .i64 0, .int .i64 0, .int .i64 0, .int .i64 0, .int .i64 0] 131 (0, 0)) := by rw [<- hW3, <- hgv]; exact World.alloc_heap_new W2 _
 obtain ⟨W4, hW4⟩ : ∃ W4, W3.setRow gv P = W4 := ⟨_, rfl⟩
 have hA4 : Arr W4 gv 131 (pmL p) := by rw [<- hW4, <- HP.out]; exact setRow_heap _ _ _ _ _ _ hz3
 have hb4 : Below W2.heap.size W2 W4 := by rw [<- hW4, <- hW3]; exact (new12 _ _).trans (below_row (Nat.le_of_eq hgv))
 have HA4 := Lh hA4
 have HP4 := Lh (((HA1.out.later hb2 HA1.out.lt).later hb4 (HA1.out.later hb2 HA1.out.lt).lt))
 have HB4 := Lh (Ks (Ks HB1.out hb2) hb4)
 have HZ3 := Lh hz3
 have HW3 := Lh hW3
 have HW4 := Lh hW4
 have HGV := Lh hgv
 have HBN := Lh (bounds15_any A p W4 (HE.out.later HB4.out))
 clear hA4 hb4 hz3 hW3 hW4 hgv hb2
 (refine wpList_plain rfl (fun K hK => ?_); go_simp; refine hK _ _ ?_; clear hK K)
 rw [HW3.out, HGV.out]
 refine wpList_store_row rfl 131 (.tmp 3) (.tmp 7) rfl gv P rfl rfl 131 _ HZ3.out (by rw [<- HP.out]; exact i6_info) (by rw [<- HP.out]; rfl) (by rw [<- HP.out]; exact pm15_oneCell _) ?_
 rw [HW4.out]
 rw [HP.out] at HBN
 obtain ⟨BA, hBA⟩ : ∃ BA, bndA A p = BA := ⟨_, rfl⟩
 rw [hBA] at HBN
 have HBA := Lh hBA
 clear hBA
 go_upto_region 2 with fail
 apply wp_region_lit
 refine wpList_load_row rfl 24 (.tmp 1) rfl g rfl 24 P (0, 0) _ (by rw [<- HP.out]; exact HP4.out) Tryz.underlying24 rfl (by rw [<- HP.out]; exact pm15c_info) ?_
 (refine wpList_plain rfl (fun K hK => ?_); go_simp)
 refine HBN.out.mono ?_
 rintro e W5 ⟨rfl, hb5⟩
 refine hK _ _ ?_
 clear hK K HBN
 have HA5 := Lh (HA4.out.later hb5 HA4.out.lt)
 have HB5 := Lh (Ks HB4.out hb5)
 clear hb5
 (refine wpList_plain rfl (fun K hK => ?_); go_simp; refine hK _ _ ?_; clear hK K)
 go_wp2_with fail
 go_loopw [10] (fun v10 W => Ck15 A p W0 g gv v10 W) (fun v _ => 6 - (intOf v).toNat)
 case atStart =>
  exact ⟨⟨0, by omega, rfl, fun j hj => absurd hj (by omega)⟩, HA5.out, HB5.out⟩
 case round =>
  obtain ⟨⟨i, hi, rfl, hin⟩, hav, hbl⟩ := hrel
  have HIN := Lh hin
  have HAV := Lh hav
  have HBL := Lh hbl
  clear hin hav hbl
  by_cases h6 : i < 6
  ·have d0 : decide ((i : Int) < 6) = true := decide_eq_true (by omega)
   have hix := fun W => bnd_at A p i h6 W
   rw [HBA.out] at hix
   obtain ⟨BI, hBI⟩ : ∃ BI, bnd15 A p i = BI := ⟨_, rfl⟩
   rw [hBI] at hix
   have HBI := Lh hBI
   clear hBI
   go_upto_region 4 with fail
   obtain ⟨gb, hgb⟩ : ∃ gb, wr.heap.size = gb := ⟨_, rfl⟩
   obtain ⟨W6, hW6⟩ : ∃ W6, wr.alloc (.cells #[.string ⟨#[]⟩, .int .i64 0, .int .i64 0, .nilIface] 134) = W6 := ⟨_, rfl⟩
   have hz6 : W6.heap[gb]? = some (.cells #[.string ⟨#[]⟩, .int .i64 0, .int .i64 0, .nilIface] 134 (0, 0)) := by rw [<- hW6, <- hgb]; exact World.alloc_heap_new wr _
   obtain ⟨W7, hW7⟩ : ∃ W7, W6.setRow gb BI = W7 := ⟨_, rfl⟩
   have hh7 : W7.heap[gb]? = some (.cells BI 134 (0, 0)) := by rw [<- hW7]; exact setRow_heap _ _ _ _ _ _ hz6
   have hb7 : Below wr.heap.size wr W7 := by rw [<- hW7, <- hW6]; exact (new12 _ _).trans (below_row (Nat.le_of_eq hgb))
   have hA7 := HAV.out.later hb7 HAV.out.lt
   have hB7 := Ks HBL.out hb7
   have HZ6 := Lh hz6
   have HW6 := Lh hW6
   have HW7 := Lh hW7
   have HGB := Lh hgb
   have HBS : Hid (BI.size = 4) := Lh (by rw [<- HBI.out]; rfl)
   have HB1C : Hid (BI.all (·.oneCell') = true) := Lh (by rw [<- HBI.out]; simp [bnd15, txt15, sn15, Value.oneCell'])
   clear hz6 hW6 hW7 hgb
   apply wp_region_lit
   iterate 3 (refine wpList_plain rfl (fun K hK => ?_); go_simp; refine hK _ _ ?_; clear hK K)
   rw [HW6.out, HGB.out]
   (refine wpList_plain rfl (fun K hK => ?_); go_simp; refine hK _ _ ?_; clear hK K)
   refine wpList_store_row rfl 134 (.tmp 5) (.tmp 13) rfl gb BI rfl rfl 134 _ HZ6.out (by rw [HBS.out]; exact bound_info) (by rw [HBS.out]; rfl) HB1C.out ?_
   rw [HW7.out]
   have hbi := HBI.out
   obtain ⟨X, hX⟩ : ∃ X, Da.val15 p (i + 1) = X := ⟨_, rfl⟩
   obtain ⟨lo, hlo⟩ : ∃ lo, Da.lo15 i = lo := ⟨_, rfl⟩
   obtain ⟨hh, hhi⟩ : ∃ hh, Da.hi15 p i = hh := ⟨_, rfl⟩
   obtain ⟨FF, hFF⟩ : ∃ FF : ByteArray, (⟨(Da.fld15 (i + 1)).toArray⟩ : ByteArray) = FF := ⟨_, rfl⟩
   obtain ⟨ad, had⟩ : ∃ ad, A (Da.err15 (i + 1) - 1) = ad := ⟨_, rfl⟩
   unfold bnd15 txt15 sn15 at hbi
   rw [hlo, hhi, hFF, had] at hbi
   have hcv : W7.cell? ⟨gv, i, none⟩ = some (.int .i64 X) := by rw [hA7.cell, pmL_at p i h6, hX]
   have hc0 : W7.cell? ⟨gb, 0, none⟩ = some (.string FF) := by unfold World.cell?; rw [hh7, <- hbi]; rfl
   have hc1 : W7.cell? ⟨gb, 1, none⟩ = some (.int .i64 lo) := by unfold World.cell?; rw [hh7, <- hbi]; rfl
   have hc2 : W7.cell? ⟨gb, 2, none⟩ = some (.int .i64 hh) := by unfold World.cell?; rw [hh7, <- hbi]; rfl
   have hc3 : W7.cell? ⟨gb, 3, none⟩ = some (.iface 256 (.pointer (some ad))) := by unfold World.cell?; rw [hh7, <- hbi]; rfl
   have HA7 := Lh hA7
   have HB7 := Lh hB7
   have HX := Lh hX
   have HLO := Lh hlo
   have HHI := Lh hhi
   have HFF := Lh hFF
   have HAD := Lh had
   clear hh7 hb7 hA7 hB7 hbi hX hlo hhi hFF had
   have hbd : 0 <= (i : Int) /\ (i : Int) < 6 := by omega
   clear hix
   have hfail : ¬ (lo <= X /\ X <= hh) -> ∀ k, WrV A p ((W7.drewN k).alloc (.cells #[.string FF, .int .i64 X, .iface 256 (.pointer (some ad))] 139)) (.iface 137 (.pointer (some ⟨W7.heap.size, 0, none⟩))) /\ Below W0.heap.size W0 ((W7.drewN k).alloc (.cells #[.string FF, .int .i64 X, .iface 256 (.pointer (some ad))] 139)) := by
    intro hn k
    have hbad : Da.bad15 p = i + 1 := Da.bad15_at h6 HIN.out (by unfold Da.in15; rw [HX.out, HLO.out, HHI.out]; exact hn)
    refine ⟨.inr ⟨by omega, W7.heap.size, rfl, ?_⟩, ?_⟩
    ·unfold WrAt txt15 sn15
     rw [hbad, HX.out, HFF.out, HAD.out]
     exact World.alloc_heap_new (W7.drewN k) _
    ·exact Ks (Ks HB7.out (Kit.dn' W7 k)) (new12 _ _)
   have HFAIL := Lh hfail
   clear hfail
   by_cases c1 : X < lo
   ·have d1 : decide (X < lo) = true := decide_eq_true c1
    go_upto_region 5 with fail
    go_quiet (fail)
    go_upto_region 6 with fail
    go_region
    go_wp2_with fail
    go_ret
    exact ⟨_, rfl, HFAIL.out (by omega) _⟩
   ·have d1 : decide (X < lo) = false := decide_eq_false c1
    by_cases c2 : hh < X
    ·have d2 : decide (X > hh) = true := decide_eq_true c2
     have d3 : decide (hh < X) = true := decide_eq_true c2
     go_upto_region 5 with fail
     go_quiet (fail)
     go_upto_region 6 with fail
     go_region
     go_wp2_with fail
     go_ret
     exact ⟨_, rfl, HFAIL.out (by omega) _⟩
    ·have d2 : decide (X > hh) = false := decide_eq_false c2
     have d3 : decide (hh < X) = false := decide_eq_false c2
     have hw : IntKind.i64.wrap ((i : Int) + 1) = (i : Int) + 1 := by rw [IntKind.wrap_i64]; omega
     go_upto_region 5 with fail
     go_quiet (fail)
     go_wp2_with fail
     go_roundw
     case rel =>
      refine ⟨⟨i + 1, by omega, by go_num, fun j hj => ?_⟩, ?_, ?_⟩
      ·by_cases e : j = i
       ·subst e
        unfold Da.in15
        rw [HX.out, HLO.out, HHI.out]
        omega
       ·exact HIN.out j (by omega)
      ·exact HA7.out.drewN _
      ·exact Kit.dn HB7.out _
     case measure => simp [intOf]; omega
  ·have e6 : i = 6 := by omega
   have hnone : Da.bad15 p = 0 := Da.bad15_none (by rw [<- e6]; exact HIN.out)
   have HN := Lh hnone
   have d0 : decide ((i : Int) < 6) = false := decide_eq_false (by omega)
   clear hnone e6
   go_wp2_with fail
   go_ret
   exact ⟨_, rfl, .inl ⟨HN.out, rfl⟩, HBL.out⟩
theorem neq_nil15 (v : World) : (binOp .neq 36 .nilIface .nilIface).run Tryz.prog v = .ok (.bool false) v := by kernel_rfl
theorem neq_wr15 (b : Nat) (v : World) : (binOp .neq 36 (wr15 b) .nilIface).run Tryz.prog v = .ok (.bool true) v := by kernel_rfl
theorem plain15_any (A : Nat -> Addr) (W0 : World) (p : Pm15) (hok : p.ok) (hE : E15 W0 A) :
    Calls Tryz.prog 63 #[.agg (pmA p)] W0 fun e w' => ∃ v, e = .returned (.tuple #[.int .i64 (if Da.bad15 p = 0 then (Da.tot15 p.sz : Int) else 0), v]) /\ WrV A p w' v /\ Below W0.heap.size W0 w' := by
 obtain ⟨g, hg⟩ : ∃ g, W0.heap.size = g := ⟨_, rfl⟩
 obtain ⟨W1, hW1⟩ : ∃ W1, W0.alloc (.cells (pmA p) 24) = W1 := ⟨_, rfl⟩
 have hA1 : Arr W1 g 24 (pmL p) := by rw [<- hW1, <- hg]; exact World.alloc_heap_new W0 _
 have hb1 : Below W0.heap.size W0 W1 := by rw [<- hW1]; exact new12 _ _
 have HCK := Lh (check15_any A W1 p hok (hE.later hb1))
 have HA1 := Lh hA1
 have HB1 := Lh hb1
 have HW1 := Lh hW1
 have HG := Lh hg
 obtain ⟨TT, hTT⟩ : ∃ TT : Int, (if Da.bad15 p = 0 then (Da.tot15 p.sz : Int) else 0) = TT := ⟨_, rfl⟩
 rw [hTT]
 have HTT := Lh hTT
 clear hE hA1 hb1 hW1 hg hok hTT
 obtain ⟨P, hP⟩ : ∃ P, pmA p = P := ⟨_, rfl⟩
 rw [hP] at HCK HW1 ⊢
 have HP := Lh hP
 clear hP
 go_enter Tryz.func63, Tryz.ntmps63
 go_upto_region 1 with fail
 rw [HW1.out, HG.out]
 apply wp_region_lit
 refine wpList_load_row rfl 24 (.tmp 1) rfl g rfl 24 P (0, 0) _ (by rw [<- HP.out]; exact HA1.out) Tryz.underlying24 rfl (by rw [<- HP.out]; exact pm15c_info) ?_
 (refine wpList_plain rfl (fun K hK => ?_); go_simp)
 refine HCK.out.mono ?_
 rintro e W2 ⟨v, rfl, hv, hb2⟩
 refine hK _ _ ?_
 clear hK K HCK
 have HA2 := Lh (HA1.out.later hb2 HA1.out.lt)
 have HB2 := Lh (Ks HB1.out hb2)
 clear hb2
 (refine wpList_plain rfl (fun K hK => ?_); go_simp; refine hK _ _ ?_; clear hK K)
 rcases hv with ⟨h0, rfl⟩ | ⟨h0, b, rfl, hw⟩
 ·have hr := Da.right15 h0
  have hT := ctotal_any p.sz.toNat W2 (by have := hr.s0; have := hr.s1; omega)
  rw [show ((p.sz.toNat : Nat) : Int) = p.sz by have := hr.s0; omega, show ((totN (nbk p.sz.toNat) : Nat) : Int) = TT by rw [<- HTT.out, if_pos h0]; rfl] at hT
  have hc0 : W2.cell? ⟨g, 0, none⟩ = some (.int .i64 p.sz) := by rw [HA2.out.cell]; rfl
  have HT := Lh hT
  have H0 := Lh h0
  have hq := neq_nil15
  clear hT h0 hr
  go_wp2_with fail
  refine HT.out.mono ?_
  rintro e W3 ⟨rfl, hb3⟩
  go_wp2_with fail
  go_ret2
  exact ⟨_, rfl, .inl ⟨H0.out, rfl⟩, Ks HB2.out hb3⟩
 ·have HW := Lh hw
  have H0 := Lh h0
  have hT0 : TT = 0 := by rw [<- HTT.out, if_neg h0]
  have HT0 := Lh hT0
  have hq := neq_wr15 b
  unfold wr15 at hq ⊢
  clear hw h0 hT0
  go_wp2_with fail
  go_ret2
  rw [HT0.out]
  exact ⟨_, rfl, .inr ⟨H0.out, b, rfl, HW.out⟩, HB2.out⟩
end Go.Proofs.YtffheegeaghfjaaGreatDoor
