/- Layer 15, the document's: Check, Right, Stored. Layer 15, the document's: Right, Stored, Bytes, Parse. Layer 15, the document's Parse. The document's Figures: a number's decimal figures. -/
import Derived.Test.YtomkkkbdipcjgaaDoorGp15
import Derived.Test.YtomkkkbdipcjgaaDoorRrb
import Derived.Deep.QuietTactic
import Derived.BigQuiet
import Derived.Deep.Cut
import Derived.Deep.CutBlock
import Derived.BigRegion
import Derived.Test.YtomkkkbdipcjgaaDoorRfm
import Derived.Test.YtomkkkbdipcjgaaDoorTr
import Derived.Laws.Rows
import Derived.Laws.ResultCell
import Derived.Lib.ItoaNum
import Derived.Lib.ItoaLen
namespace Go.Proofs.YtomkkkbdipcjgaaDoor
open Go.RowKit
set_option linter.unusedVariables false
set_option linter.unusedSimpArgs false
/-- a text's value -/
def txt15 (l : List UInt8) : Value := .string ⟨l.toArray⟩
/-- six numbers in a block -/
structure PmAt (W : World) (g : Nat) (p : Pm15) : Prop where
  lt : g < W.heap.size
  c0 : W.cell? ⟨g, 0, none⟩ = some (.int .i64 p.sz)
  c1 : W.cell? ⟨g, 1, none⟩ = some (.int .i64 p.se)
  c2 : W.cell? ⟨g, 2, none⟩ = some (.int .i64 p.sp)
  c3 : W.cell? ⟨g, 3, none⟩ = some (.int .i64 p.pe)
  c4 : W.cell? ⟨g, 4, none⟩ = some (.int .i64 p.pa)
  c5 : W.cell? ⟨g, 5, none⟩ = some (.int .i64 p.re)
theorem PmAt.later {W W' : World} {g : Nat} {p : Pm15} (h : PmAt W g p) (hb : Below W.heap.size W W') : PmAt W' g p := by
  have k : ∀ i, W'.cell? ⟨g, i, none⟩ = W.cell? ⟨g, i, none⟩ := fun i => hb.cell (p := ⟨g, i, none⟩) h.lt
  exact ⟨Nat.lt_of_lt_of_le h.lt hb.size, (k 0).trans h.c0, (k 1).trans h.c1, (k 2).trans h.c2, (k 3).trans h.c3, (k 4).trans h.c4, (k 5).trans h.c5⟩
theorem PmAt.of {W : World} {g : Nat} {T : TypeId} {f : Nat × Nat} {p : Pm15} (h : W.heap[g]? = some (.cells (pmA p) T f)) : PmAt W g p := by
  have k : ∀ i, W.cell? ⟨g, i, none⟩ = (pmA p)[i]? := fun i => by unfold World.cell?; rw [h]; rfl
  exact ⟨(Array.getElem?_eq_some_iff.1 h).1, k 0, k 1, k 2, k 3, k 4, k 5⟩
theorem PmAt.new (W : World) (T : TypeId) (p : Pm15) : PmAt (W.alloc (.cells (pmA p) T)) W.heap.size p := PmAt.of (World.alloc_heap_new W _)
set_option maxRecDepth 100000 in
set_option maxHeartbeats 4000000 in
theorem rchk15_any (p : Pm15) (hok : p.ok) (w : World) :
    Calls Tryd.prog 8 #[.agg (pmA p)] w fun e w' => e = .returned (.tuple #[txt15 (Da.fld15 (Da.bad15 p)), .int .i64 (Da.val15 p (Da.bad15 p)), .int .i64 ((Da.err15 (Da.bad15 p) : Nat) : Int)]) ∧ Below w.heap.size w w' := by
  obtain ⟨g, hg⟩ : ∃ g, w.heap.size = g := ⟨_, rfl⟩
  obtain ⟨W1, hW1⟩ : ∃ W1, w.alloc (.cells (pmA p) 25) = W1 := ⟨_, rfl⟩
  have hP : PmAt W1 g p := by rw [← hW1, ← hg]; exact PmAt.new _ _ _
  have hb1 : Below w.heap.size w W1 := by rw [← hW1]; exact (Below.refl _ _).alloc (Nat.le_refl _) _
  have HW1 := Lib.hid hW1
  have HG := Lib.hid hg
  have HP := Lib.hid hP
  have HB1 := Lib.hid hb1
  have hc0 := hP.c0
  have hc1 := hP.c1
  have hc2 := hP.c2
  have hc3 := hP.c3
  have hc4 := hP.c4
  have hc5 := hP.c5
  have HOK := Lib.hid hok
  obtain ⟨Q, hQ⟩ : ∃ Q, pmA p = Q := ⟨_, rfl⟩
  rw [hQ] at HW1 ⊢
  clear hP hb1 hW1 hg hok
  obtain ⟨sz, se, sp, pe, pa, re⟩ := p
  dsimp only at hc0 hc1 hc2 hc3 hc4 hc5
  obtain ⟨k, hk⟩ : ∃ k, Da.bad15 ⟨sz, se, sp, pe, pa, re⟩ = k := ⟨_, rfl⟩
  rw [hk]
  unfold Da.bad15 at hk
  dsimp only at hk
  by_cases l1 : sz < 0
  · rw [if_pos (by omega)] at hk
    subst hk
    have d1sz : decide (sz < 0) = true := decide_eq_true (by omega)
    go_enter Tryd.func8, Tryd.ntmps8
    go_upto_region 1 with fail
    rw [HW1.out, HG.out]
    go_upto_region 2 with fail
    go_quiet (fail)
    go_wp2_with fail
    refine bodyPost_ret (results_tmp3 rfl _ _ _) rfl ?_
    first | exact ⟨rfl, Kit.step HB1.out (Kit.dn' _ _)⟩ | exact ⟨rfl, HB1.out.drew⟩
  by_cases u1 : 2000 < sz
  · rw [if_pos (by omega)] at hk
    subst hk
    have d1sz : decide (sz < 0) = false := decide_eq_false (by omega)
    have d2sz : decide (sz > 2000) = true := decide_eq_true (by omega)
    have d3sz : decide (2000 < sz) = true := decide_eq_true (by omega)
    go_enter Tryd.func8, Tryd.ntmps8
    go_upto_region 1 with fail
    rw [HW1.out, HG.out]
    go_upto_region 2 with fail
    go_quiet (fail)
    go_wp2_with fail
    refine bodyPost_ret (results_tmp3 rfl _ _ _) rfl ?_
    first | exact ⟨rfl, Kit.step HB1.out (Kit.dn' _ _)⟩ | exact ⟨rfl, HB1.out.drew⟩
  have d1sz : decide (sz < 0) = false := decide_eq_false (by omega)
  have d2sz : decide (sz > 2000) = false := decide_eq_false (by omega)
  have d3sz : decide (2000 < sz) = false := decide_eq_false (by omega)
  rw [if_neg (by omega)] at hk
  by_cases l2 : se < 0
  · rw [if_pos (by omega)] at hk
    subst hk
    have d1se : decide (se < 0) = true := decide_eq_true (by omega)
    go_enter Tryd.func8, Tryd.ntmps8
    go_upto_region 1 with fail
    rw [HW1.out, HG.out]
    go_upto_region 4 with fail
    go_quiet (fail)
    go_wp2_with fail
    refine bodyPost_ret (results_tmp3 rfl _ _ _) rfl ?_
    first | exact ⟨rfl, Kit.step HB1.out (Kit.dn' _ _)⟩ | exact ⟨rfl, HB1.out.drew⟩
  by_cases u2 : 8 < se
  · rw [if_pos (by omega)] at hk
    subst hk
    have d1se : decide (se < 0) = false := decide_eq_false (by omega)
    have d2se : decide (se > 8) = true := decide_eq_true (by omega)
    have d3se : decide (8 < se) = true := decide_eq_true (by omega)
    go_enter Tryd.func8, Tryd.ntmps8
    go_upto_region 1 with fail
    rw [HW1.out, HG.out]
    go_upto_region 4 with fail
    go_quiet (fail)
    go_wp2_with fail
    refine bodyPost_ret (results_tmp3 rfl _ _ _) rfl ?_
    first | exact ⟨rfl, Kit.step HB1.out (Kit.dn' _ _)⟩ | exact ⟨rfl, HB1.out.drew⟩
  have d1se : decide (se < 0) = false := decide_eq_false (by omega)
  have d2se : decide (se > 8) = false := decide_eq_false (by omega)
  have d3se : decide (8 < se) = false := decide_eq_false (by omega)
  rw [if_neg (by omega)] at hk
  have TO := rtotal_any sz.toNat W1 (by omega)
  rw [show ((sz.toNat : Nat) : Int) = sz by omega, show totN (nbk sz.toNat) = Da.tot15 sz from rfl] at TO
  have hbd : Da.tot15 sz ≤ 100000 := by
    have := nbk_bd sz.toNat (by omega)
    unfold Da.tot15 totN shpN
    split <;> simp <;> omega
  obtain ⟨T, hT⟩ : ∃ T, Da.tot15 sz = T := ⟨_, rfl⟩
  rw [hT] at TO hbd
  simp only [hT] at hk
  have HTO := Lib.hid TO
  have hw0 : IntKind.i64.wrap ((T : Int) + se) = (T : Int) + se := by rw [IntKind.wrap_i64]; omega
  clear TO hT
  by_cases l3 : sp < 1
  · rw [if_pos (by omega)] at hk
    subst hk
    have d1sp : decide (sp < 1) = true := decide_eq_true (by omega)
    go_enter Tryd.func8, Tryd.ntmps8
    go_upto_region 1 with fail
    rw [HW1.out, HG.out]
    go_wp2_with fail
    refine HTO.out.mono ?_
    rintro e W2 ⟨rfl, hb2⟩
    have hP2 := HP.out.later hb2
    have HB2 := Lib.hid (Kit.step HB1.out hb2)
    have hc0 := hP2.c0
    have hc1 := hP2.c1
    have hc2 := hP2.c2
    have hc3 := hP2.c3
    have hc4 := hP2.c4
    have hc5 := hP2.c5
    clear hP2 hb2
    go_upto_region 7 with fail
    go_quiet (fail)
    go_wp2_with fail
    refine bodyPost_ret (results_tmp3 rfl _ _ _) rfl ?_
    first | exact ⟨rfl, Kit.step HB2.out (Kit.dn' _ _)⟩ | exact ⟨rfl, HB2.out.drew⟩
  by_cases u3 : 12 < sp
  · rw [if_pos (by omega)] at hk
    subst hk
    have d1sp : decide (sp < 1) = false := decide_eq_false (by omega)
    have d2sp : decide (sp > 12) = true := decide_eq_true (by omega)
    have d3sp : decide (12 < sp) = true := decide_eq_true (by omega)
    go_enter Tryd.func8, Tryd.ntmps8
    go_upto_region 1 with fail
    rw [HW1.out, HG.out]
    go_wp2_with fail
    refine HTO.out.mono ?_
    rintro e W2 ⟨rfl, hb2⟩
    have hP2 := HP.out.later hb2
    have HB2 := Lib.hid (Kit.step HB1.out hb2)
    have hc0 := hP2.c0
    have hc1 := hP2.c1
    have hc2 := hP2.c2
    have hc3 := hP2.c3
    have hc4 := hP2.c4
    have hc5 := hP2.c5
    clear hP2 hb2
    go_upto_region 7 with fail
    go_quiet (fail)
    go_wp2_with fail
    refine bodyPost_ret (results_tmp3 rfl _ _ _) rfl ?_
    first | exact ⟨rfl, Kit.step HB2.out (Kit.dn' _ _)⟩ | exact ⟨rfl, HB2.out.drew⟩
  have d1sp : decide (sp < 1) = false := decide_eq_false (by omega)
  have d2sp : decide (sp > 12) = false := decide_eq_false (by omega)
  have d3sp : decide (12 < sp) = false := decide_eq_false (by omega)
  by_cases t3 : (T : Int) + se < sp
  · rw [if_pos (by omega)] at hk
    subst hk
    have d4 : decide (sp > (T : Int) + se) = true := decide_eq_true (by omega)
    have d5 : decide ((T : Int) + se < sp) = true := decide_eq_true (by omega)
    go_enter Tryd.func8, Tryd.ntmps8
    go_upto_region 1 with fail
    rw [HW1.out, HG.out]
    go_wp2_with fail
    refine HTO.out.mono ?_
    rintro e W2 ⟨rfl, hb2⟩
    have hP2 := HP.out.later hb2
    have HB2 := Lib.hid (Kit.step HB1.out hb2)
    have hc0 := hP2.c0
    have hc1 := hP2.c1
    have hc2 := hP2.c2
    have hc3 := hP2.c3
    have hc4 := hP2.c4
    have hc5 := hP2.c5
    clear hP2 hb2
    go_upto_region 7 with fail
    go_quiet (fail)
    go_wp2_with fail
    refine bodyPost_ret (results_tmp3 rfl _ _ _) rfl ?_
    first | exact ⟨rfl, Kit.step HB2.out (Kit.dn' _ _)⟩ | exact ⟨rfl, HB2.out.drew⟩
  have d4 : decide (sp > (T : Int) + se) = false := decide_eq_false (by omega)
  have d5 : decide ((T : Int) + se < sp) = false := decide_eq_false (by omega)
  rw [if_neg (by omega)] at hk
  by_cases l4 : pe < 1
  · rw [if_pos (by omega)] at hk
    subst hk
    have d1pe : decide (pe < 1) = true := decide_eq_true (by omega)
    go_enter Tryd.func8, Tryd.ntmps8
    go_upto_region 1 with fail
    rw [HW1.out, HG.out]
    go_wp2_with fail
    refine HTO.out.mono ?_
    rintro e W2 ⟨rfl, hb2⟩
    have hP2 := HP.out.later hb2
    have HB2 := Lib.hid (Kit.step HB1.out hb2)
    have hc0 := hP2.c0
    have hc1 := hP2.c1
    have hc2 := hP2.c2
    have hc3 := hP2.c3
    have hc4 := hP2.c4
    have hc5 := hP2.c5
    clear hP2 hb2
    go_upto_region 9 with fail
    go_quiet (fail)
    go_wp2_with fail
    refine bodyPost_ret (results_tmp3 rfl _ _ _) rfl ?_
    first | exact ⟨rfl, Kit.step HB2.out (Kit.dn' _ _)⟩ | exact ⟨rfl, HB2.out.drew⟩
  by_cases u4 : 10000 < pe
  · rw [if_pos (by omega)] at hk
    subst hk
    have d1pe : decide (pe < 1) = false := decide_eq_false (by omega)
    have d2pe : decide (pe > 10000) = true := decide_eq_true (by omega)
    have d3pe : decide (10000 < pe) = true := decide_eq_true (by omega)
    go_enter Tryd.func8, Tryd.ntmps8
    go_upto_region 1 with fail
    rw [HW1.out, HG.out]
    go_wp2_with fail
    refine HTO.out.mono ?_
    rintro e W2 ⟨rfl, hb2⟩
    have hP2 := HP.out.later hb2
    have HB2 := Lib.hid (Kit.step HB1.out hb2)
    have hc0 := hP2.c0
    have hc1 := hP2.c1
    have hc2 := hP2.c2
    have hc3 := hP2.c3
    have hc4 := hP2.c4
    have hc5 := hP2.c5
    clear hP2 hb2
    go_upto_region 9 with fail
    go_quiet (fail)
    go_wp2_with fail
    refine bodyPost_ret (results_tmp3 rfl _ _ _) rfl ?_
    first | exact ⟨rfl, Kit.step HB2.out (Kit.dn' _ _)⟩ | exact ⟨rfl, HB2.out.drew⟩
  have d1pe : decide (pe < 1) = false := decide_eq_false (by omega)
  have d2pe : decide (pe > 10000) = false := decide_eq_false (by omega)
  have d3pe : decide (10000 < pe) = false := decide_eq_false (by omega)
  rw [if_neg (by omega)] at hk
  by_cases l5 : pa < 1
  · rw [if_pos (by omega)] at hk
    subst hk
    have d1pa : decide (pa < 1) = true := decide_eq_true (by omega)
    go_enter Tryd.func8, Tryd.ntmps8
    go_upto_region 1 with fail
    rw [HW1.out, HG.out]
    go_wp2_with fail
    refine HTO.out.mono ?_
    rintro e W2 ⟨rfl, hb2⟩
    have hP2 := HP.out.later hb2
    have HB2 := Lib.hid (Kit.step HB1.out hb2)
    have hc0 := hP2.c0
    have hc1 := hP2.c1
    have hc2 := hP2.c2
    have hc3 := hP2.c3
    have hc4 := hP2.c4
    have hc5 := hP2.c5
    clear hP2 hb2
    go_upto_region 11 with fail
    go_quiet (fail)
    go_wp2_with fail
    refine bodyPost_ret (results_tmp3 rfl _ _ _) rfl ?_
    first | exact ⟨rfl, Kit.step HB2.out (Kit.dn' _ _)⟩ | exact ⟨rfl, HB2.out.drew⟩
  by_cases u5 : pe < pa
  · rw [if_pos (by omega)] at hk
    subst hk
    have d1pa : decide (pa < 1) = false := decide_eq_false (by omega)
    have d2pa : decide (pa > pe) = true := decide_eq_true (by omega)
    have d3pa : decide (pe < pa) = true := decide_eq_true (by omega)
    go_enter Tryd.func8, Tryd.ntmps8
    go_upto_region 1 with fail
    rw [HW1.out, HG.out]
    go_wp2_with fail
    refine HTO.out.mono ?_
    rintro e W2 ⟨rfl, hb2⟩
    have hP2 := HP.out.later hb2
    have HB2 := Lib.hid (Kit.step HB1.out hb2)
    have hc0 := hP2.c0
    have hc1 := hP2.c1
    have hc2 := hP2.c2
    have hc3 := hP2.c3
    have hc4 := hP2.c4
    have hc5 := hP2.c5
    clear hP2 hb2
    go_upto_region 11 with fail
    go_quiet (fail)
    go_wp2_with fail
    refine bodyPost_ret (results_tmp3 rfl _ _ _) rfl ?_
    first | exact ⟨rfl, Kit.step HB2.out (Kit.dn' _ _)⟩ | exact ⟨rfl, HB2.out.drew⟩
  have d1pa : decide (pa < 1) = false := decide_eq_false (by omega)
  have d2pa : decide (pa > pe) = false := decide_eq_false (by omega)
  have d3pa : decide (pe < pa) = false := decide_eq_false (by omega)
  rw [if_neg (by omega)] at hk
  by_cases l6 : re < 0
  · rw [if_pos (by omega)] at hk
    subst hk
    have d1re : decide (re < 0) = true := decide_eq_true (by omega)
    go_enter Tryd.func8, Tryd.ntmps8
    go_upto_region 1 with fail
    rw [HW1.out, HG.out]
    go_wp2_with fail
    refine HTO.out.mono ?_
    rintro e W2 ⟨rfl, hb2⟩
    have hP2 := HP.out.later hb2
    have HB2 := Lib.hid (Kit.step HB1.out hb2)
    have hc0 := hP2.c0
    have hc1 := hP2.c1
    have hc2 := hP2.c2
    have hc3 := hP2.c3
    have hc4 := hP2.c4
    have hc5 := hP2.c5
    clear hP2 hb2
    go_upto_region 13 with fail
    go_quiet (fail)
    go_wp2_with fail
    refine bodyPost_ret (results_tmp3 rfl _ _ _) rfl ?_
    first | exact ⟨rfl, Kit.step HB2.out (Kit.dn' _ _)⟩ | exact ⟨rfl, HB2.out.drew⟩
  by_cases u6 : 5 < re
  · rw [if_pos (by omega)] at hk
    subst hk
    have d1re : decide (re < 0) = false := decide_eq_false (by omega)
    have d2re : decide (re > 5) = true := decide_eq_true (by omega)
    have d3re : decide (5 < re) = true := decide_eq_true (by omega)
    go_enter Tryd.func8, Tryd.ntmps8
    go_upto_region 1 with fail
    rw [HW1.out, HG.out]
    go_wp2_with fail
    refine HTO.out.mono ?_
    rintro e W2 ⟨rfl, hb2⟩
    have hP2 := HP.out.later hb2
    have HB2 := Lib.hid (Kit.step HB1.out hb2)
    have hc0 := hP2.c0
    have hc1 := hP2.c1
    have hc2 := hP2.c2
    have hc3 := hP2.c3
    have hc4 := hP2.c4
    have hc5 := hP2.c5
    clear hP2 hb2
    go_upto_region 13 with fail
    go_quiet (fail)
    go_wp2_with fail
    refine bodyPost_ret (results_tmp3 rfl _ _ _) rfl ?_
    first | exact ⟨rfl, Kit.step HB2.out (Kit.dn' _ _)⟩ | exact ⟨rfl, HB2.out.drew⟩
  have d1re : decide (re < 0) = false := decide_eq_false (by omega)
  have d2re : decide (re > 5) = false := decide_eq_false (by omega)
  have d3re : decide (5 < re) = false := decide_eq_false (by omega)
  rw [if_neg (by omega)] at hk
  subst hk
  go_enter Tryd.func8, Tryd.ntmps8
  go_upto_region 1 with fail
  rw [HW1.out, HG.out]
  go_wp2_with fail
  refine HTO.out.mono ?_
  rintro e W2 ⟨rfl, hb2⟩
  have hP2 := HP.out.later hb2
  have HB2 := Lib.hid (Kit.step HB1.out hb2)
  have hc0 := hP2.c0
  have hc1 := hP2.c1
  have hc2 := hP2.c2
  have hc3 := hP2.c3
  have hc4 := hP2.c4
  have hc5 := hP2.c5
  clear hP2 hb2
  go_wp2_with fail
  refine bodyPost_ret (results_tmp3 rfl _ _ _) rfl ?_
  exact ⟨rfl, HB2.out⟩
end Go.Proofs.YtomkkkbdipcjgaaDoor
namespace Go.Proofs.YtomkkkbdipcjgaaDoor
open Go.RowKit
set_option linter.unusedVariables false
set_option linter.unusedSimpArgs false
theorem pm15_info : (Tryd.prog.info? 25).map (·.size) = some 6 := by kernel_rfl
theorem rright15_any (p : Pm15) (hok : p.ok) (w : World) : Calls Tryd.prog 24 #[.agg (pmA p)] w fun e w' => e = .returned (.bool (decide (Da.bad15 p = 0))) ∧ Below w.heap.size w w' := by
  obtain ⟨W1, hW1⟩ : ∃ W1, w.alloc (.cells (pmA p) 25) = W1 := ⟨_, rfl⟩
  have hb1 : Below w.heap.size w W1 := by rw [← hW1]; exact new12 _ _
  have hA : W1.heap[w.heap.size]? = some (.cells (pmA p) 25 (0, 0)) := by rw [← hW1]; exact World.alloc_heap_new w _
  have HCK := Lib.hid (rchk15_any p hok W1)
  have HE := Lib.hid (Da.err15_zero (Da.bad15_le p))
  obtain ⟨k, hk⟩ : ∃ k, Da.bad15 p = k := ⟨_, rfl⟩
  rw [hk] at HCK HE ⊢
  obtain ⟨ev, hev⟩ : ∃ ev, Da.err15 k = ev := ⟨_, rfl⟩
  rw [hev] at HCK HE
  have hbq : ((ev : Int) == 0) = decide (k = 0) := by
    by_cases h : k = 0
    · have := HE.out.2 h; subst this; simp [h]
    · have : ev ≠ 0 := fun e => h (HE.out.1 e)
      have h2 : ((ev : Int) == 0) = false := by rw [beq_eq_false_iff_ne]; omega
      rw [h2]; simp [h]
  have HA := Lib.hid hA
  have HB1 := Lib.hid hb1
  have HW1 := Lib.hid hW1
  obtain ⟨Q, hQ⟩ : ∃ Q, pmA p = Q := ⟨_, rfl⟩
  have hQs : (Tryd.prog.info? 25).map (·.size) = some Q.size := by rw [pm15_info, ← hQ]; rfl
  have HQS := Lib.hid hQs
  rw [hQ] at HA HCK HW1 ⊢
  clear hb1 hA hW1 hk hev hQ hQs
  go_enter Tryd.func24, Tryd.ntmps24
  go_upto_region 1 with fail
  rw [HW1.out]
  apply wp_region_lit
  refine wpList_load_row rfl 25 (.tmp 1) rfl w.heap.size rfl 25 Q (0, 0) _ HA.out Tryd.underlying25 rfl HQS.out ?_
  (refine wpList_plain rfl (fun K hK => ?_); go_simp)
  refine HCK.out.mono ?_
  rintro e W2 ⟨rfl, hb2⟩
  refine hK _ _ ?_
  clear hK K
  have HB2 := Lib.hid (Kit.step HB1.out hb2)
  clear hb2
  go_wp2_with fail
  go_ret
  exact ⟨rfl, HB2.out⟩
theorem rstored15_any (p : Pm15) (h : Da.Right15 p) (w : World) : Calls Tryd.prog 18 #[.agg (pmA p)] w fun e w' => e = .returned (.int .i64 ((Da.tot15 p.sz : Int) + p.se)) ∧ Below w.heap.size w w' := by
  obtain ⟨W1, hW1⟩ : ∃ W1, w.alloc (.cells (pmA p) 25) = W1 := ⟨_, rfl⟩
  have hb1 : Below w.heap.size w W1 := by rw [← hW1]; exact new12 _ _
  have hP : PmAt W1 w.heap.size p := by rw [← hW1]; exact PmAt.new _ _ _
  have TO := rtotal_any p.sz.toNat W1 (by have := h.s1; omega)
  rw [show ((p.sz.toNat : Nat) : Int) = p.sz by have := h.s0; omega, show totN (nbk p.sz.toNat) = Da.tot15 p.sz from rfl] at TO
  have hbd : Da.tot15 p.sz ≤ 100000 := by
    have := nbk_bd p.sz.toNat (by have := h.s1; omega)
    unfold Da.tot15 totN shpN
    split <;> simp <;> omega
  obtain ⟨T, hT⟩ : ∃ T, Da.tot15 p.sz = T := ⟨_, rfl⟩
  rw [hT] at TO hbd ⊢
  have hw0 : IntKind.i64.wrap ((T : Int) + p.se) = (T : Int) + p.se := by rw [IntKind.wrap_i64]; have := h.e0; have := h.e1; omega
  have hc0 := hP.c0
  have HP := Lib.hid hP
  have HTO := Lib.hid TO
  have HB1 := Lib.hid hb1
  have HW1 := Lib.hid hW1
  obtain ⟨Q, hQ⟩ : ∃ Q, pmA p = Q := ⟨_, rfl⟩
  rw [hQ] at HW1 ⊢
  obtain ⟨sz, se, sp, pe, pa, re⟩ := p
  dsimp only at hc0 hw0 HTO ⊢
  clear hb1 hP hW1 hT hQ TO h
  go_enter Tryd.func18, Tryd.ntmps18
  go_upto_region 1 with fail
  rw [HW1.out]
  go_wp2_with fail
  refine HTO.out.mono ?_
  rintro e W2 ⟨rfl, hb2⟩
  have hc1 := (HP.out.later hb2).c1
  dsimp only at hc1
  have HB2 := Lib.hid (Kit.step HB1.out hb2)
  clear hb2
  go_wp2_with fail
  go_ret
  exact ⟨rfl, HB2.out⟩
theorem rbytes15_any (p : Pm15) (h : Da.Right15 p) (w : World) : Calls Tryd.prog 19 #[.agg (pmA p)] w fun e w' => ∃ o c, e = .returned (.slice o 9 c) ∧ RowIs w' o (bytesV (Da.byt15 p)) c ∧ Below w.heap.size w w' := by
  obtain ⟨h1, h2, h3, h4, h5, h6, h7, h8, h9, h10, h11, h12, h13⟩ := h
  obtain ⟨sz, se, sp, pe, pa, re⟩ := p
  dsimp only at *
  obtain ⟨a, rfl⟩ := Int.eq_ofNat_of_zero_le h1
  obtain ⟨b, rfl⟩ := Int.eq_ofNat_of_zero_le h3
  obtain ⟨c, rfl⟩ := Int.eq_ofNat_of_zero_le (show 0 ≤ sp by omega)
  obtain ⟨d, rfl⟩ := Int.eq_ofNat_of_zero_le (show 0 ≤ pe by omega)
  obtain ⟨f, rfl⟩ := Int.eq_ofNat_of_zero_le (show 0 ≤ pa by omega)
  obtain ⟨g, rfl⟩ := Int.eq_ofNat_of_zero_le h12
  obtain ⟨W1, hW1⟩ : ∃ W1, w.alloc (.cells (pmA ⟨(a : Int), (b : Int), (c : Int), (d : Int), (f : Int), (g : Int)⟩) 25) = W1 := ⟨_, rfl⟩
  have hb1 : Below w.heap.size w W1 := by rw [← hW1]; exact new12 _ _
  have hP : PmAt W1 w.heap.size ⟨(a : Int), (b : Int), (c : Int), (d : Int), (f : Int), (g : Int)⟩ := by rw [← hW1]; exact PmAt.new _ _ _
  have hc0 := hP.c0
  have hc1 := hP.c1
  have hc2 := hP.c2
  have hc3 := hP.c3
  have hc4 := hP.c4
  have hc5 := hP.c5
  dsimp only at hc0 hc1 hc2 hc3 hc4 hc5
  have dv : ∀ n : Nat, Int.tdiv (n : Int) 256 = ((n / 256 : Nat) : Int) := fun n => by rw [show (256 : Int) = ((256 : Nat) : Int) from rfl, ← Int.ofNat_tdiv]
  have md : ∀ n : Nat, Int.tmod (n : Int) 256 = ((n % 256 : Nat) : Int) := fun n => by rw [show (256 : Int) = ((256 : Nat) : Int) from rfl, ← Int.ofNat_tmod]
  have wi : ∀ n : Nat, n < 100000 → IntKind.i64.wrap (n : Int) = (n : Int) := fun n hn => by rw [IntKind.wrap_i64]; omega
  have wu : ∀ n : Nat, n < 256 → IntKind.u8.wrap (n : Int) = (n : Int) := fun n hn => by rw [IntKind.wrap_u8]; omega
  have e0 := dv a
  have e1 := md a
  have e2 := dv d
  have e3 := md d
  have e4 := dv f
  have e5 := md f
  have i0 := wi (a / 256) (by omega)
  have i2 := wi (d / 256) (by omega)
  have i4 := wi (f / 256) (by omega)
  have u0 := wu (a / 256) (by omega)
  have u1 := wu (a % 256) (by omega)
  have u2 := wu b (by omega)
  have u3 := wu c (by omega)
  have u4 := wu (d / 256) (by omega)
  have u5 := wu (d % 256) (by omega)
  have u6 := wu (f / 256) (by omega)
  have u7 := wu (f % 256) (by omega)
  have u8 := wu g (by omega)
  obtain ⟨W2, hW2⟩ : ∃ W2, W1.alloc (.cells (bytesV (Da.byt15 ⟨(a : Int), (b : Int), (c : Int), (d : Int), (f : Int), (g : Int)⟩)).toArray 5) = W2 := ⟨_, rfl⟩
  have hA2 : Arr W2 W1.heap.size 5 (bytesV (Da.byt15 ⟨(a : Int), (b : Int), (c : Int), (d : Int), (f : Int), (g : Int)⟩)) := by rw [← hW2]; exact Arr.made _ _ _
  have hb2 : Below W1.heap.size W1 W2 := by rw [← hW2]; exact new12 _ _
  have hbv : (bytesV (Da.byt15 ⟨(a : Int), (b : Int), (c : Int), (d : Int), (f : Int), (g : Int)⟩)).toArray = #[.int .u8 ((a : Int) / 256), .int .u8 ((a : Int) % 256), .int .u8 (b : Int), .int .u8 (c : Int), .int .u8 ((d : Int) / 256), .int .u8 ((d : Int) % 256), .int .u8 ((f : Int) / 256), .int .u8 ((f : Int) % 256), .int .u8 (g : Int)] := by
    unfold Da.byt15 bytesV
    simp only [List.map_cons, List.map_nil, Int.toNat_natCast]
    rw [u8_nat _ (by omega), u8_nat _ (by omega), u8_nat _ (by omega), u8_nat _ (by omega), u8_nat _ (by omega), u8_nat _ (by omega), u8_nat _ (by omega), u8_nat _ (by omega), u8_nat _ (by omega)]
    rfl
  rw [hbv] at hW2
  have hFIN : RowIs W2 (some ⟨W1.heap.size, 0, none⟩) (bytesV (Da.byt15 ⟨(a : Int), (b : Int), (c : Int), (d : Int), (f : Int), (g : Int)⟩)) 9 :=
    ⟨by rw [bytesV_length]; exact Nat.le_refl _, by decide, (fun e => by cases e), fun _ => ⟨W1.heap.size, 0, rfl, hA2.lt, fun i v hv => by rw [Nat.zero_add, hA2.cell]; exact hv⟩⟩
  have HFIN := Lib.hid (And.intro hFIN (Kit.step hb1 hb2))
  have HW1 := Lib.hid hW1
  have HW2 := Lib.hid hW2
  obtain ⟨Q, hQ⟩ : ∃ Q, pmA ⟨(a : Int), (b : Int), (c : Int), (d : Int), (f : Int), (g : Int)⟩ = Q := ⟨_, rfl⟩
  rw [hQ] at HW1 ⊢
  clear hb1 hP hW1 hW2 hA2 hb2 hbv hFIN hQ dv md wi wu
  go_enter Tryd.func19, Tryd.ntmps19
  go_upto_region 1 with fail
  rw [HW1.out]
  go_wp2_with fail
  -- STOP1
  go_ret
  exact ⟨_, _, rfl, by rw [HW2.out]; exact HFIN.out.1, by rw [HW2.out]; exact HFIN.out.2⟩
/-- Parse's error's number, and what it answers -/
def Da.prn15 (b : List UInt8) : Nat := if b.length = 9 then Da.err15 (Da.bad15 (Da.prs15 b)) else 8
def Da.zero15 : Pm15 := ⟨0, 0, 0, 0, 0, 0⟩
def Da.out15 (b : List UInt8) : Pm15 := if Da.prn15 b = 0 then Da.prs15 b else Da.zero15
theorem pm15_oneCell (p : Pm15) : (pmA p).all (·.oneCell') = true := by simp [pmA, Value.oneCell']
set_option maxHeartbeats 2000000 in
theorem rparse15_len (o : Option Addr) (n c : Nat) (hn : n ≠ 9) (hn2 : n ≤ 1000000) (w : World) : Calls Tryd.prog 22 #[.slice o n c] w fun e w' => e = .returned (.tuple #[.agg (pmA Da.zero15), .int .i64 8]) ∧ Below w.heap.size w w' := by
  have hq : ((n : Int) != 9) = true := by rw [bne_iff_ne]; omega
  have hq2 : ((n : Int) == 9) = false := by rw [beq_eq_false_iff_ne]; omega
  obtain ⟨W1, hW1⟩ : ∃ W1, w.alloc (.cells #[.int .i64 0, .int .i64 0, .int .i64 0, .int .i64 0, .int .i64 0, .int .i64 0] 25) = W1 := ⟨_, rfl⟩
  have hA : W1.heap[w.heap.size]? = some (.cells #[.int .i64 0, .int .i64 0, .int .i64 0, .int .i64 0, .int .i64 0, .int .i64 0] 25 (0, 0)) := by rw [← hW1]; exact World.alloc_heap_new w _
  have hb : Below w.heap.size w W1 := by rw [← hW1]; exact new12 _ _
  have HB := Lib.hid hb
  have HW1 := Lib.hid hW1
  have HA := Lib.hid hA
  clear hb hW1 hA
  go_enter Tryd.func22, Tryd.ntmps22
  go_wp2_with fail
  rw [HW1.out]
  refine bodyPost_ret (results_cell_row2 rfl _ _ w.heap.size 25 #[.int .i64 0, .int .i64 0, .int .i64 0, .int .i64 0, .int .i64 0, .int .i64 0] (0, 0) _ rfl HA.out Tryd.underlying25 rfl pm15_info) rfl ?_
  exact ⟨rfl, HB.out⟩
end Go.Proofs.YtomkkkbdipcjgaaDoor
namespace Go.Proofs.YtomkkkbdipcjgaaDoor
open Go.RowKit
set_option linter.unusedVariables false
set_option linter.unusedSimpArgs false
theorem u8_bd (x : UInt8) : x.toNat < 256 := UInt8.toNat_lt x
set_option maxRecDepth 100000 in
set_option maxHeartbeats 8000000 in
theorem rparse15_nine (x0 x1 x2 x3 x4 x5 x6 x7 x8 : UInt8) (o : Option Addr) (c : Nat) (w : World) (hR : RowIs w o (bytesV [x0, x1, x2, x3, x4, x5, x6, x7, x8]) c) :
    Calls Tryd.prog 22 #[.slice o 9 c] w fun e w' => e = .returned (.tuple #[.agg (pmA (Da.out15 [x0, x1, x2, x3, x4, x5, x6, x7, x8])), .int .i64 ((Da.prn15 [x0, x1, x2, x3, x4, x5, x6, x7, x8] : Nat) : Int)]) ∧ Below w.heap.size w w' := by
  obtain ⟨b1, off1, rfl, hlt, hcl⟩ := hR.cells (by simp [bytesV])
  have hle := hR.le
  simp only [bytesV_length, List.length_cons, List.length_nil] at hle
  have hcap := hR.cap
  unfold maxLen at hcap
  have k0 := u8_bd x0
  have k1 := u8_bd x1
  have k2 := u8_bd x2
  have k3 := u8_bd x3
  have k4 := u8_bd x4
  have k5 := u8_bd x5
  have k6 := u8_bd x6
  have k7 := u8_bd x7
  have k8 := u8_bd x8
  obtain ⟨v0, hv0⟩ : ∃ v : Nat, x0.toNat * 256 + x1.toNat = v := ⟨_, rfl⟩
  obtain ⟨v4, hv4⟩ : ∃ v : Nat, x4.toNat * 256 + x5.toNat = v := ⟨_, rfl⟩
  obtain ⟨v6, hv6⟩ : ∃ v : Nat, x6.toNat * 256 + x7.toNat = v := ⟨_, rfl⟩
  have m0 : IntKind.i64.wrap ((x0.toNat : Int) * 256) = (x0.toNat : Int) * 256 := by rw [IntKind.wrap_i64]; omega
  have m4 : IntKind.i64.wrap ((x4.toNat : Int) * 256) = (x4.toNat : Int) * 256 := by rw [IntKind.wrap_i64]; omega
  have m6 : IntKind.i64.wrap ((x6.toNat : Int) * 256) = (x6.toNat : Int) * 256 := by rw [IntKind.wrap_i64]; omega
  have s0 : IntKind.i64.wrap ((x0.toNat : Int) * 256 + (x1.toNat : Int)) = (v0 : Int) := by rw [IntKind.wrap_i64]; omega
  have s4 : IntKind.i64.wrap ((x4.toNat : Int) * 256 + (x5.toNat : Int)) = (v4 : Int) := by rw [IntKind.wrap_i64]; omega
  have s6 : IntKind.i64.wrap ((x6.toNat : Int) * 256 + (x7.toNat : Int)) = (v6 : Int) := by rw [IntKind.wrap_i64]; omega
  have wi : ∀ n : Nat, n < 256 → IntKind.i64.wrap (n : Int) = (n : Int) := fun n hn => by rw [IntKind.wrap_i64]; omega
  have w0 := wi _ k0
  have w1 := wi _ k1
  have w2 := wi _ k2
  have w3 := wi _ k3
  have w4 := wi _ k4
  have w5 := wi _ k5
  have w6 := wi _ k6
  have w7 := wi _ k7
  have w8 := wi _ k8
  have hprs : Da.prs15 [x0, x1, x2, x3, x4, x5, x6, x7, x8] = ⟨(v0 : Int), (x2.toNat : Int), (x3.toNat : Int), (v4 : Int), (v6 : Int), (x8.toNat : Int)⟩ := by
    unfold Da.prs15
    simp only [List.getD_cons_zero, List.getD_cons_succ]
    rw [hv0, hv4, hv6]
  have hok : Pm15.ok ⟨(v0 : Int), (x2.toNat : Int), (x3.toNat : Int), (v4 : Int), (v6 : Int), (x8.toNat : Int)⟩ := by constructor <;> (unfold in64; dsimp only; omega)
  have hprn : Da.prn15 [x0, x1, x2, x3, x4, x5, x6, x7, x8] = Da.err15 (Da.bad15 ⟨(v0 : Int), (x2.toNat : Int), (x3.toNat : Int), (v4 : Int), (v6 : Int), (x8.toNat : Int)⟩) := by
    unfold Da.prn15
    rw [if_pos (show [x0, x1, x2, x3, x4, x5, x6, x7, x8].length = 9 from rfl), hprs]
  have hout : Da.out15 [x0, x1, x2, x3, x4, x5, x6, x7, x8] = if Da.prn15 [x0, x1, x2, x3, x4, x5, x6, x7, x8] = 0 then ⟨(v0 : Int), (x2.toNat : Int), (x3.toNat : Int), (v4 : Int), (v6 : Int), (x8.toNat : Int)⟩ else Da.zero15 := by
    unfold Da.out15
    rw [hprs]
  have hbl := Da.bad15_le ⟨(v0 : Int), (x2.toNat : Int), (x3.toNat : Int), (v4 : Int), (v6 : Int), (x8.toNat : Int)⟩
  have hCK := fun v => rchk15_any ⟨(v0 : Int), (x2.toNat : Int), (x3.toNat : Int), (v4 : Int), (v6 : Int), (x8.toNat : Int)⟩ hok v
  obtain ⟨kb, hkb⟩ : ∃ kb, Da.bad15 ⟨(v0 : Int), (x2.toNat : Int), (x3.toNat : Int), (v4 : Int), (v6 : Int), (x8.toNat : Int)⟩ = kb := ⟨_, rfl⟩
  rw [hkb] at hCK hprn hbl
  have hez := Da.err15_zero hbl
  obtain ⟨ev, hev⟩ : ∃ ev, Da.err15 kb = ev := ⟨_, rfl⟩
  rw [hev] at hCK hprn hez
  rw [hprn] at hout
  rw [hout, hprn]
  have hQS : (Tryd.prog.info? 25).map (·.size) = some (#[.int .i64 (v0 : Int), .int .i64 (x2.toNat : Int), .int .i64 (x3.toNat : Int), .int .i64 (v4 : Int), .int .i64 (v6 : Int), .int .i64 (x8.toNat : Int)] : Array Value).size := pm15_info
  have hQO : (#[.int .i64 (v0 : Int), .int .i64 (x2.toNat : Int), .int .i64 (x3.toNat : Int), .int .i64 (v4 : Int), .int .i64 (v6 : Int), .int .i64 (x8.toNat : Int)] : Array Value).all (·.oneCell') = true := by simp [Value.oneCell']
  have hQZ : (#[.int .i64 0, .int .i64 0, .int .i64 0, .int .i64 0, .int .i64 0, .int .i64 0] : Array Value).size = (#[.int .i64 (v0 : Int), .int .i64 (x2.toNat : Int), .int .i64 (x3.toNat : Int), .int .i64 (v4 : Int), .int .i64 (v6 : Int), .int .i64 (x8.toNat : Int)] : Array Value).size := rfl
  unfold pmA at hCK
  dsimp only at hCK
  obtain ⟨g, hg⟩ : ∃ g, w.heap.size = g := ⟨_, rfl⟩
  obtain ⟨W1, hW1⟩ : ∃ W1, w.alloc (.cells #[.int .i64 0, .int .i64 0, .int .i64 0, .int .i64 0, .int .i64 0, .int .i64 0] 25) = W1 := ⟨_, rfl⟩
  have hA1 : W1.heap[g]? = some (.cells #[.int .i64 0, .int .i64 0, .int .i64 0, .int .i64 0, .int .i64 0, .int .i64 0] 25 (0, 0)) := by rw [← hW1, ← hg]; exact World.alloc_heap_new w _
  have hb1 : Below w.heap.size w W1 := by rw [← hW1]; exact new12 _ _
  have hcell : ∀ v, Below w.heap.size w v → ∀ i (u : UInt8), [x0, x1, x2, x3, x4, x5, x6, x7, x8][i]? = some u → v.cell? ⟨b1, off1 + i, none⟩ = some (.int .u8 ((u.toNat : Nat) : Int)) := fun v hv i u hu => by
    rw [hv.cell (p := ⟨b1, off1 + i, none⟩) hlt]
    refine hcl i _ ?_
    unfold bytesV
    rw [List.getElem?_map, hu]
    rfl
  obtain ⟨C, hC⟩ : ∃ C : World → Prop, (fun v : World => Below W1.heap.size W1 v) = C := ⟨_, rfl⟩
  have HC1 : Hid (∀ v, Below W1.heap.size W1 v → C v) := Lib.hid fun v hv => by rw [← hC]; exact hv
  have HC2 : Hid (∀ v, C v → Below W1.heap.size W1 v) := Lib.hid fun v hv => by rw [← hC] at hv; exact hv
  have HX : Hid (∀ v, C v → v.cell? ⟨b1, off1, none⟩ = some (.int .u8 ((x0.toNat : Nat) : Int)) ∧ v.cell? ⟨b1, off1 + 1, none⟩ = some (.int .u8 ((x1.toNat : Nat) : Int)) ∧ v.cell? ⟨b1, off1 + 2, none⟩ = some (.int .u8 ((x2.toNat : Nat) : Int)) ∧ v.cell? ⟨b1, off1 + 3, none⟩ = some (.int .u8 ((x3.toNat : Nat) : Int)) ∧
      v.cell? ⟨b1, off1 + 4, none⟩ = some (.int .u8 ((x4.toNat : Nat) : Int)) ∧ v.cell? ⟨b1, off1 + 5, none⟩ = some (.int .u8 ((x5.toNat : Nat) : Int)) ∧ v.cell? ⟨b1, off1 + 6, none⟩ = some (.int .u8 ((x6.toNat : Nat) : Int)) ∧ v.cell? ⟨b1, off1 + 7, none⟩ = some (.int .u8 ((x7.toNat : Nat) : Int)) ∧
      v.cell? ⟨b1, off1 + 8, none⟩ = some (.int .u8 ((x8.toNat : Nat) : Int))) := Lib.hid fun v hv => by
    have hb := Kit.step hb1 (HC2.out v hv)
    exact ⟨hcell v hb 0 x0 rfl, hcell v hb 1 x1 rfl, hcell v hb 2 x2 rfl, hcell v hb 3 x3 rfl, hcell v hb 4 x4 rfl, hcell v hb 5 x5 rfl, hcell v hb 6 x6 rfl, hcell v hb 7 x7 rfl, hcell v hb 8 x8 rfl⟩
  have hC0 : C W1.drew := HC1.out _ (Kit.dn' W1 1)
  have HA1 := Lib.hid hA1
  have HB1 := Lib.hid hb1
  have HW1 := Lib.hid hW1
  have HG := Lib.hid hg
  have HQS := Lib.hid hQS
  have HQO := Lib.hid hQO
  have HQZ := Lib.hid hQZ
  have HCK := Lib.hid hCK
  have HEZ := Lib.hid hez
  clear hR hlt hcl hprs hok hprn hout hbl hkb hez hev hCK hQS hQO hQZ hg hW1 hA1 hb1 hcell hC wi hv0 hv4 hv6
  go_enter Tryd.func22, Tryd.ntmps22
  go_upto_region 3 with fail
  rw [HW1.out, HG.out]
  -- STOP1
  refine Rgt.region C (fun _ => false) (by kernel_rfl) ?_
  refine Rgt.take (i := 0) (x := .slice (some ⟨b1, off1, none⟩) 9 c) rfl rfl (by kernel_rfl) (by kernel_rfl) (by kernel_rfl) (by kernel_rfl) (fun _ _ _ h => h) (Or.inl ⟨by kernel_rfl, fun w hw => by (go_simp <;> with_reducible rfl)⟩) hC0 ?_
  go_simp
  refine Rgt.take (i := 1) (x := .pointer (some ⟨b1, off1, none⟩)) rfl rfl (by kernel_rfl) (by kernel_rfl) (by kernel_rfl) (by kernel_rfl) (fun _ _ _ h => h) (Or.inl ⟨by kernel_rfl, fun w hw => by (go_simp <;> with_reducible rfl)⟩) hC0 ?_
  go_simp
  refine Rgt.take (i := 2) (x := .int .u8 ((x0.toNat : Nat) : Int)) rfl rfl (by kernel_rfl) (by kernel_rfl) (by kernel_rfl) (by kernel_rfl) (fun _ _ _ h => h) (Or.inl ⟨by kernel_rfl, fun w hw => by have hc := HX.out w hw; have hc0 := hc.1; (go_simp <;> with_reducible rfl)⟩) hC0 ?_
  go_simp
  refine Rgt.take (i := 3) (x := .int .i64 ((x0.toNat : Nat) : Int)) rfl rfl (by kernel_rfl) (by kernel_rfl) (by kernel_rfl) (by kernel_rfl) (fun _ _ _ h => h) (Or.inl ⟨by kernel_rfl, fun w hw => by (go_simp <;> with_reducible rfl)⟩) hC0 ?_
  go_simp
  refine Rgt.take (i := 4) (x := .int .i64 (((x0.toNat : Nat) : Int) * 256)) rfl rfl (by kernel_rfl) (by kernel_rfl) (by kernel_rfl) (by kernel_rfl) (fun _ _ _ h => h) (Or.inl ⟨by kernel_rfl, fun w hw => by (go_simp <;> with_reducible rfl)⟩) hC0 ?_
  go_simp
  refine Rgt.take (i := 5) (x := .slice (some ⟨b1, off1, none⟩) 9 c) rfl rfl (by kernel_rfl) (by kernel_rfl) (by kernel_rfl) (by kernel_rfl) (fun _ _ _ h => h) (Or.inl ⟨by kernel_rfl, fun w hw => by (go_simp <;> with_reducible rfl)⟩) hC0 ?_
  go_simp
  refine Rgt.take (i := 6) (x := .pointer (some ⟨b1, off1 + 1, none⟩)) rfl rfl (by kernel_rfl) (by kernel_rfl) (by kernel_rfl) (by kernel_rfl) (fun _ _ _ h => h) (Or.inl ⟨by kernel_rfl, fun w hw => by (go_simp <;> with_reducible rfl)⟩) hC0 ?_
  go_simp
  refine Rgt.take (i := 7) (x := .int .u8 ((x1.toNat : Nat) : Int)) rfl rfl (by kernel_rfl) (by kernel_rfl) (by kernel_rfl) (by kernel_rfl) (fun _ _ _ h => h) (Or.inl ⟨by kernel_rfl, fun w hw => by have hc := HX.out w hw; have hc1 := hc.2.1; (go_simp <;> with_reducible rfl)⟩) hC0 ?_
  go_simp
  refine Rgt.take (i := 8) (x := .int .i64 ((x1.toNat : Nat) : Int)) rfl rfl (by kernel_rfl) (by kernel_rfl) (by kernel_rfl) (by kernel_rfl) (fun _ _ _ h => h) (Or.inl ⟨by kernel_rfl, fun w hw => by (go_simp <;> with_reducible rfl)⟩) hC0 ?_
  go_simp
  refine Rgt.take (i := 9) (x := .int .i64 (v0 : Int)) rfl rfl (by kernel_rfl) (by kernel_rfl) (by kernel_rfl) (by kernel_rfl) (fun _ _ _ h => h) (Or.inl ⟨by kernel_rfl, fun w hw => by (go_simp <;> with_reducible rfl)⟩) hC0 ?_
  go_simp
  refine Rgt.take (i := 10) (x := .slice (some ⟨b1, off1, none⟩) 9 c) rfl rfl (by kernel_rfl) (by kernel_rfl) (by kernel_rfl) (by kernel_rfl) (fun _ _ _ h => h) (Or.inl ⟨by kernel_rfl, fun w hw => by (go_simp <;> with_reducible rfl)⟩) hC0 ?_
  go_simp
  refine Rgt.take (i := 11) (x := .pointer (some ⟨b1, off1 + 2, none⟩)) rfl rfl (by kernel_rfl) (by kernel_rfl) (by kernel_rfl) (by kernel_rfl) (fun _ _ _ h => h) (Or.inl ⟨by kernel_rfl, fun w hw => by (go_simp <;> with_reducible rfl)⟩) hC0 ?_
  go_simp
  refine Rgt.take (i := 12) (x := .int .u8 ((x2.toNat : Nat) : Int)) rfl rfl (by kernel_rfl) (by kernel_rfl) (by kernel_rfl) (by kernel_rfl) (fun _ _ _ h => h) (Or.inl ⟨by kernel_rfl, fun w hw => by have hc := HX.out w hw; have hc2 := hc.2.2.1; (go_simp <;> with_reducible rfl)⟩) hC0 ?_
  go_simp
  refine Rgt.take (i := 13) (x := .int .i64 ((x2.toNat : Nat) : Int)) rfl rfl (by kernel_rfl) (by kernel_rfl) (by kernel_rfl) (by kernel_rfl) (fun _ _ _ h => h) (Or.inl ⟨by kernel_rfl, fun w hw => by (go_simp <;> with_reducible rfl)⟩) hC0 ?_
  go_simp
  refine Rgt.take (i := 14) (x := .slice (some ⟨b1, off1, none⟩) 9 c) rfl rfl (by kernel_rfl) (by kernel_rfl) (by kernel_rfl) (by kernel_rfl) (fun _ _ _ h => h) (Or.inl ⟨by kernel_rfl, fun w hw => by (go_simp <;> with_reducible rfl)⟩) hC0 ?_
  go_simp
  refine Rgt.take (i := 15) (x := .pointer (some ⟨b1, off1 + 3, none⟩)) rfl rfl (by kernel_rfl) (by kernel_rfl) (by kernel_rfl) (by kernel_rfl) (fun _ _ _ h => h) (Or.inl ⟨by kernel_rfl, fun w hw => by (go_simp <;> with_reducible rfl)⟩) hC0 ?_
  go_simp
  refine Rgt.take (i := 16) (x := .int .u8 ((x3.toNat : Nat) : Int)) rfl rfl (by kernel_rfl) (by kernel_rfl) (by kernel_rfl) (by kernel_rfl) (fun _ _ _ h => h) (Or.inl ⟨by kernel_rfl, fun w hw => by have hc := HX.out w hw; have hc3 := hc.2.2.2.1; (go_simp <;> with_reducible rfl)⟩) hC0 ?_
  go_simp
  refine Rgt.take (i := 17) (x := .int .i64 ((x3.toNat : Nat) : Int)) rfl rfl (by kernel_rfl) (by kernel_rfl) (by kernel_rfl) (by kernel_rfl) (fun _ _ _ h => h) (Or.inl ⟨by kernel_rfl, fun w hw => by (go_simp <;> with_reducible rfl)⟩) hC0 ?_
  go_simp
  refine Rgt.take (i := 18) (x := .slice (some ⟨b1, off1, none⟩) 9 c) rfl rfl (by kernel_rfl) (by kernel_rfl) (by kernel_rfl) (by kernel_rfl) (fun _ _ _ h => h) (Or.inl ⟨by kernel_rfl, fun w hw => by (go_simp <;> with_reducible rfl)⟩) hC0 ?_
  go_simp
  refine Rgt.take (i := 19) (x := .pointer (some ⟨b1, off1 + 4, none⟩)) rfl rfl (by kernel_rfl) (by kernel_rfl) (by kernel_rfl) (by kernel_rfl) (fun _ _ _ h => h) (Or.inl ⟨by kernel_rfl, fun w hw => by (go_simp <;> with_reducible rfl)⟩) hC0 ?_
  go_simp
  refine Rgt.take (i := 20) (x := .int .u8 ((x4.toNat : Nat) : Int)) rfl rfl (by kernel_rfl) (by kernel_rfl) (by kernel_rfl) (by kernel_rfl) (fun _ _ _ h => h) (Or.inl ⟨by kernel_rfl, fun w hw => by have hc := HX.out w hw; have hc4 := hc.2.2.2.2.1; (go_simp <;> with_reducible rfl)⟩) hC0 ?_
  go_simp
  refine Rgt.take (i := 21) (x := .int .i64 ((x4.toNat : Nat) : Int)) rfl rfl (by kernel_rfl) (by kernel_rfl) (by kernel_rfl) (by kernel_rfl) (fun _ _ _ h => h) (Or.inl ⟨by kernel_rfl, fun w hw => by (go_simp <;> with_reducible rfl)⟩) hC0 ?_
  go_simp
  refine Rgt.take (i := 22) (x := .int .i64 (((x4.toNat : Nat) : Int) * 256)) rfl rfl (by kernel_rfl) (by kernel_rfl) (by kernel_rfl) (by kernel_rfl) (fun _ _ _ h => h) (Or.inl ⟨by kernel_rfl, fun w hw => by (go_simp <;> with_reducible rfl)⟩) hC0 ?_
  go_simp
  refine Rgt.take (i := 23) (x := .slice (some ⟨b1, off1, none⟩) 9 c) rfl rfl (by kernel_rfl) (by kernel_rfl) (by kernel_rfl) (by kernel_rfl) (fun _ _ _ h => h) (Or.inl ⟨by kernel_rfl, fun w hw => by (go_simp <;> with_reducible rfl)⟩) hC0 ?_
  go_simp
  refine Rgt.take (i := 24) (x := .pointer (some ⟨b1, off1 + 5, none⟩)) rfl rfl (by kernel_rfl) (by kernel_rfl) (by kernel_rfl) (by kernel_rfl) (fun _ _ _ h => h) (Or.inl ⟨by kernel_rfl, fun w hw => by (go_simp <;> with_reducible rfl)⟩) hC0 ?_
  go_simp
  refine Rgt.take (i := 25) (x := .int .u8 ((x5.toNat : Nat) : Int)) rfl rfl (by kernel_rfl) (by kernel_rfl) (by kernel_rfl) (by kernel_rfl) (fun _ _ _ h => h) (Or.inl ⟨by kernel_rfl, fun w hw => by have hc := HX.out w hw; have hc5 := hc.2.2.2.2.2.1; (go_simp <;> with_reducible rfl)⟩) hC0 ?_
  go_simp
  refine Rgt.take (i := 26) (x := .int .i64 ((x5.toNat : Nat) : Int)) rfl rfl (by kernel_rfl) (by kernel_rfl) (by kernel_rfl) (by kernel_rfl) (fun _ _ _ h => h) (Or.inl ⟨by kernel_rfl, fun w hw => by (go_simp <;> with_reducible rfl)⟩) hC0 ?_
  go_simp
  refine Rgt.take (i := 27) (x := .int .i64 (v4 : Int)) rfl rfl (by kernel_rfl) (by kernel_rfl) (by kernel_rfl) (by kernel_rfl) (fun _ _ _ h => h) (Or.inl ⟨by kernel_rfl, fun w hw => by (go_simp <;> with_reducible rfl)⟩) hC0 ?_
  go_simp
  refine Rgt.take (i := 28) (x := .slice (some ⟨b1, off1, none⟩) 9 c) rfl rfl (by kernel_rfl) (by kernel_rfl) (by kernel_rfl) (by kernel_rfl) (fun _ _ _ h => h) (Or.inl ⟨by kernel_rfl, fun w hw => by (go_simp <;> with_reducible rfl)⟩) hC0 ?_
  go_simp
  refine Rgt.take (i := 29) (x := .pointer (some ⟨b1, off1 + 6, none⟩)) rfl rfl (by kernel_rfl) (by kernel_rfl) (by kernel_rfl) (by kernel_rfl) (fun _ _ _ h => h) (Or.inl ⟨by kernel_rfl, fun w hw => by (go_simp <;> with_reducible rfl)⟩) hC0 ?_
  go_simp
  refine Rgt.take (i := 30) (x := .int .u8 ((x6.toNat : Nat) : Int)) rfl rfl (by kernel_rfl) (by kernel_rfl) (by kernel_rfl) (by kernel_rfl) (fun _ _ _ h => h) (Or.inl ⟨by kernel_rfl, fun w hw => by have hc := HX.out w hw; have hc6 := hc.2.2.2.2.2.2.1; (go_simp <;> with_reducible rfl)⟩) hC0 ?_
  go_simp
  refine Rgt.take (i := 31) (x := .int .i64 ((x6.toNat : Nat) : Int)) rfl rfl (by kernel_rfl) (by kernel_rfl) (by kernel_rfl) (by kernel_rfl) (fun _ _ _ h => h) (Or.inl ⟨by kernel_rfl, fun w hw => by (go_simp <;> with_reducible rfl)⟩) hC0 ?_
  go_simp
  refine Rgt.take (i := 32) (x := .int .i64 (((x6.toNat : Nat) : Int) * 256)) rfl rfl (by kernel_rfl) (by kernel_rfl) (by kernel_rfl) (by kernel_rfl) (fun _ _ _ h => h) (Or.inl ⟨by kernel_rfl, fun w hw => by (go_simp <;> with_reducible rfl)⟩) hC0 ?_
  go_simp
  refine Rgt.take (i := 33) (x := .slice (some ⟨b1, off1, none⟩) 9 c) rfl rfl (by kernel_rfl) (by kernel_rfl) (by kernel_rfl) (by kernel_rfl) (fun _ _ _ h => h) (Or.inl ⟨by kernel_rfl, fun w hw => by (go_simp <;> with_reducible rfl)⟩) hC0 ?_
  go_simp
  refine Rgt.take (i := 34) (x := .pointer (some ⟨b1, off1 + 7, none⟩)) rfl rfl (by kernel_rfl) (by kernel_rfl) (by kernel_rfl) (by kernel_rfl) (fun _ _ _ h => h) (Or.inl ⟨by kernel_rfl, fun w hw => by (go_simp <;> with_reducible rfl)⟩) hC0 ?_
  go_simp
  refine Rgt.take (i := 35) (x := .int .u8 ((x7.toNat : Nat) : Int)) rfl rfl (by kernel_rfl) (by kernel_rfl) (by kernel_rfl) (by kernel_rfl) (fun _ _ _ h => h) (Or.inl ⟨by kernel_rfl, fun w hw => by have hc := HX.out w hw; have hc7 := hc.2.2.2.2.2.2.2.1; (go_simp <;> with_reducible rfl)⟩) hC0 ?_
  go_simp
  refine Rgt.take (i := 36) (x := .int .i64 ((x7.toNat : Nat) : Int)) rfl rfl (by kernel_rfl) (by kernel_rfl) (by kernel_rfl) (by kernel_rfl) (fun _ _ _ h => h) (Or.inl ⟨by kernel_rfl, fun w hw => by (go_simp <;> with_reducible rfl)⟩) hC0 ?_
  go_simp
  refine Rgt.take (i := 37) (x := .int .i64 (v6 : Int)) rfl rfl (by kernel_rfl) (by kernel_rfl) (by kernel_rfl) (by kernel_rfl) (fun _ _ _ h => h) (Or.inl ⟨by kernel_rfl, fun w hw => by (go_simp <;> with_reducible rfl)⟩) hC0 ?_
  go_simp
  refine Rgt.take (i := 38) (x := .slice (some ⟨b1, off1, none⟩) 9 c) rfl rfl (by kernel_rfl) (by kernel_rfl) (by kernel_rfl) (by kernel_rfl) (fun _ _ _ h => h) (Or.inl ⟨by kernel_rfl, fun w hw => by (go_simp <;> with_reducible rfl)⟩) hC0 ?_
  go_simp
  refine Rgt.take (i := 39) (x := .pointer (some ⟨b1, off1 + 8, none⟩)) rfl rfl (by kernel_rfl) (by kernel_rfl) (by kernel_rfl) (by kernel_rfl) (fun _ _ _ h => h) (Or.inl ⟨by kernel_rfl, fun w hw => by (go_simp <;> with_reducible rfl)⟩) hC0 ?_
  go_simp
  refine Rgt.take (i := 40) (x := .int .u8 ((x8.toNat : Nat) : Int)) rfl rfl (by kernel_rfl) (by kernel_rfl) (by kernel_rfl) (by kernel_rfl) (fun _ _ _ h => h) (Or.inl ⟨by kernel_rfl, fun w hw => by have hc := HX.out w hw; have hc8 := hc.2.2.2.2.2.2.2.2; (go_simp <;> with_reducible rfl)⟩) hC0 ?_
  go_simp
  refine Rgt.take (i := 41) (x := .int .i64 ((x8.toNat : Nat) : Int)) rfl rfl (by kernel_rfl) (by kernel_rfl) (by kernel_rfl) (by kernel_rfl) (fun _ _ _ h => h) (Or.inl ⟨by kernel_rfl, fun w hw => by (go_simp <;> with_reducible rfl)⟩) hC0 ?_
  go_simp
  refine Rgt.take (i := 42) (x := .agg #[.int .i64 (v0 : Int), .int .i64 (x2.toNat : Int), .int .i64 (x3.toNat : Int), .int .i64 (v4 : Int), .int .i64 (v6 : Int), .int .i64 (x8.toNat : Int)]) rfl rfl (by kernel_rfl) (by kernel_rfl) (by kernel_rfl) (by kernel_rfl) (fun _ _ _ h => h) (Or.inl ⟨by kernel_rfl, fun w hw => by (go_simp <;> with_reducible rfl)⟩) hC0 ?_
  go_simp
  obtain ⟨V0, hV0⟩ : ∃ V, W1.drew = V := ⟨_, rfl⟩
  rw [hV0] at hC0 ⊢
  clear hV0
  refine Rgt.ready (i := 43) (by kernel_rfl) rfl (by kernel_rfl) (fun K hK => ?_)
  go_simp
  obtain ⟨g2, hg2⟩ : ∃ g2, V0.heap.size = g2 := ⟨_, rfl⟩
  obtain ⟨V1, hV1⟩ : ∃ V, V0.alloc (.cells #[.int .i64 0, .int .i64 0, .int .i64 0, .int .i64 0, .int .i64 0, .int .i64 0] 25) = V := ⟨_, rfl⟩
  have hb2 : Below V0.heap.size V0 V1 := by rw [← hV1]; exact new12 _ _
  have hz : V1.heap[g2]? = some (.cells #[.int .i64 0, .int .i64 0, .int .i64 0, .int .i64 0, .int .i64 0, .int .i64 0] 25 (0, 0)) := by rw [← hV1, ← hg2]; exact World.alloc_heap_new V0 _
  rw [hV1, hg2]
  have hB2 := Kit.step (HC2.out _ hC0) hb2
  have hC1 := HC1.out _ hB2
  refine hK _ _ hC1 ?_
  clear hK K
  have hB3 : Below W1.heap.size W1 (V1.setRow g2 #[.int .i64 (v0 : Int), .int .i64 (x2.toNat : Int), .int .i64 (x3.toNat : Int), .int .i64 (v4 : Int), .int .i64 (v6 : Int), .int .i64 (x8.toNat : Int)]) := hB2.trans (below_row (by have := (HC2.out _ hC0).size; omega))
  have hC2 := HC1.out _ hB3
  have HZ := Lib.hid hz
  have HQ2 : Hid ((V1.setRow g2 #[.int .i64 (v0 : Int), .int .i64 (x2.toNat : Int), .int .i64 (x3.toNat : Int), .int .i64 (v4 : Int), .int .i64 (v6 : Int), .int .i64 (x8.toNat : Int)]).heap[g2]? = some (.cells #[.int .i64 (v0 : Int), .int .i64 (x2.toNat : Int), .int .i64 (x3.toNat : Int), .int .i64 (v4 : Int), .int .i64 (v6 : Int), .int .i64 (x8.toNat : Int)] 25 (0, 0))) := Lib.hid (setRow_heap _ _ _ _ _ _ hz)
  have HB3 := Lib.hid (Kit.step HB1.out hB3)
  have HA3 : Hid ((V1.setRow g2 #[.int .i64 (v0 : Int), .int .i64 (x2.toNat : Int), .int .i64 (x3.toNat : Int), .int .i64 (v4 : Int), .int .i64 (v6 : Int), .int .i64 (x8.toNat : Int)]).heap[g]? = some (.cells #[.int .i64 0, .int .i64 0, .int .i64 0, .int .i64 0, .int .i64 0, .int .i64 0] 25 (0, 0))) := Lib.hid (by rw [hB3.block g (Array.getElem?_eq_some_iff.1 HA1.out).1]; exact HA1.out)
  clear hg2 hV1 hb2 hz hB2 hB3 hC0
  refine Rgt.ready (i := 44) (by kernel_rfl) rfl (by kernel_rfl) (fun K hK => ?_)
  refine wp_store_row 25 (.tmp 4) (.tmp 54) rfl g2 #[.int .i64 (v0 : Int), .int .i64 (x2.toNat : Int), .int .i64 (x3.toNat : Int), .int .i64 (v4 : Int), .int .i64 (v6 : Int), .int .i64 (x8.toNat : Int)] rfl rfl 25 _ HZ.out HQS.out HQZ.out HQO.out (hK _ _ hC2 ?_)
  clear hK K
  refine Rgt.done (by kernel_rfl) ?_ _
  obtain ⟨V2, hV2⟩ : ∃ V, V1.setRow g2 #[.int .i64 (v0 : Int), .int .i64 (x2.toNat : Int), .int .i64 (x3.toNat : Int), .int .i64 (v4 : Int), .int .i64 (v6 : Int), .int .i64 (x8.toNat : Int)] = V := ⟨_, rfl⟩
  rw [hV2] at HQ2 HB3 HA3 ⊢
  clear hV2 hC1 hC2 HZ
  have HCK2 := Lib.hid (HCK.out V2)
  go_upto_region 4 with fail
  apply wp_region_lit
  refine wpList_load_row rfl 25 (.tmp 4) rfl g2 rfl 25 #[.int .i64 (v0 : Int), .int .i64 (x2.toNat : Int), .int .i64 (x3.toNat : Int), .int .i64 (v4 : Int), .int .i64 (v6 : Int), .int .i64 (x8.toNat : Int)] (0, 0) _ HQ2.out Tryd.underlying25 rfl HQS.out ?_
  (refine wpList_plain rfl (fun K hK => ?_); go_simp)
  refine HCK2.out.mono ?_
  rintro e V3 ⟨rfl, hb3⟩
  refine hK _ _ ?_
  clear hK K HCK2
  have HB4 := Lib.hid (Kit.step HB3.out hb3)
  have HA4 : Hid (V3.heap[g]? = some (.cells #[.int .i64 0, .int .i64 0, .int .i64 0, .int .i64 0, .int .i64 0, .int .i64 0] 25 (0, 0))) := Lib.hid (by rw [hb3.block g (Array.getElem?_eq_some_iff.1 HA3.out).1]; exact HA3.out)
  have HQ4 : Hid (V3.heap[g2]? = some (.cells #[.int .i64 (v0 : Int), .int .i64 (x2.toNat : Int), .int .i64 (x3.toNat : Int), .int .i64 (v4 : Int), .int .i64 (v6 : Int), .int .i64 (x8.toNat : Int)] 25 (0, 0))) := Lib.hid (by rw [hb3.block g2 (Array.getElem?_eq_some_iff.1 HQ2.out).1]; exact HQ2.out)
  clear hb3
  by_cases h0 : ev = 0
  · subst h0
    have HGQ : Hid ((V3.setRow g #[.int .i64 (v0 : Int), .int .i64 (x2.toNat : Int), .int .i64 (x3.toNat : Int), .int .i64 (v4 : Int), .int .i64 (v6 : Int), .int .i64 (x8.toNat : Int)]).heap[g]? = some (.cells #[.int .i64 (v0 : Int), .int .i64 (x2.toNat : Int), .int .i64 (x3.toNat : Int), .int .i64 (v4 : Int), .int .i64 (v6 : Int), .int .i64 (x8.toNat : Int)] 25 (0, 0))) := Lib.hid (setRow_heap _ _ _ _ _ _ HA4.out)
    have HB5 := Lib.hid (HB4.out.trans (below_row (Nat.le_of_eq HG.out) (w := V3) (g := g) (cs := #[.int .i64 (v0 : Int), .int .i64 (x2.toNat : Int), .int .i64 (x3.toNat : Int), .int .i64 (v4 : Int), .int .i64 (v6 : Int), .int .i64 (x8.toNat : Int)])))
    rw [show (((0 : Nat) : Int)) = 0 from rfl]
    go_upto_region 7 with fail
    apply wp_region_lit
    refine wpList_load_row rfl 25 (.tmp 4) rfl g2 rfl 25 #[.int .i64 (v0 : Int), .int .i64 (x2.toNat : Int), .int .i64 (x3.toNat : Int), .int .i64 (v4 : Int), .int .i64 (v6 : Int), .int .i64 (x8.toNat : Int)] (0, 0) _ HQ4.out Tryd.underlying25 rfl HQS.out ?_
    refine wpList_store_row rfl 25 (.tmp 2) (.tmp 65) rfl g #[.int .i64 (v0 : Int), .int .i64 (x2.toNat : Int), .int .i64 (x3.toNat : Int), .int .i64 (v4 : Int), .int .i64 (v6 : Int), .int .i64 (x8.toNat : Int)] rfl rfl 25 _ HA4.out HQS.out HQZ.out HQO.out ?_
    go_wp2_with fail
    refine bodyPost_ret (results_cell_row2 rfl _ _ g 25 #[.int .i64 (v0 : Int), .int .i64 (x2.toNat : Int), .int .i64 (x3.toNat : Int), .int .i64 (v4 : Int), .int .i64 (v6 : Int), .int .i64 (x8.toNat : Int)] (0, 0) _ rfl HGQ.out Tryd.underlying25 rfl HQS.out) rfl ?_
    first | exact ⟨rfl, HB5.out⟩ | exact ⟨by rw [if_pos rfl]; rfl, HB5.out⟩
  · have hq : ((ev : Int) != 0) = true := by rw [bne_iff_ne]; omega
    have hq2 : ((ev : Int) == 0) = false := by rw [beq_eq_false_iff_ne]; omega
    have HGZ : Hid ((V3.setRow g #[.int .i64 0, .int .i64 0, .int .i64 0, .int .i64 0, .int .i64 0, .int .i64 0]).heap[g]? = some (.cells #[.int .i64 0, .int .i64 0, .int .i64 0, .int .i64 0, .int .i64 0, .int .i64 0] 25 (0, 0))) := Lib.hid (setRow_heap _ _ _ _ _ _ HA4.out)
    have HB5 := Lib.hid (HB4.out.trans (below_row (Nat.le_of_eq HG.out) (w := V3) (g := g) (cs := #[.int .i64 0, .int .i64 0, .int .i64 0, .int .i64 0, .int .i64 0, .int .i64 0])))
    have H0 := Lib.hid h0
    clear h0
    go_upto_region 6 with fail
    apply wp_region_lit
    (refine wpList_plain rfl (fun K hK => ?_); go_simp; refine hK _ _ ?_; clear hK K)
    (refine wpList_plain rfl (fun K hK => ?_); go_simp; refine hK _ _ ?_; clear hK K)
    refine wpList_store_row rfl 25 (.tmp 2) (.tmp 63) rfl g #[.int .i64 0, .int .i64 0, .int .i64 0, .int .i64 0, .int .i64 0, .int .i64 0] rfl rfl 25 _ HA4.out pm15_info rfl (by simp [Value.oneCell']) ?_
    go_wp2_with fail
    refine bodyPost_ret (results_cell_row2 rfl _ _ g 25 #[.int .i64 0, .int .i64 0, .int .i64 0, .int .i64 0, .int .i64 0, .int .i64 0] (0, 0) _ rfl HGZ.out Tryd.underlying25 rfl pm15_info) rfl ?_
    first | exact ⟨by rw [if_neg H0.out]; rfl, HB5.out⟩ | exact ⟨rfl, HB5.out⟩
theorem rparse15_any (b : List UInt8) (o : Option Addr) (c : Nat) (w : World) (hR : RowIs w o (bytesV b) c) (hl : b.length ≤ 1000000) :
    Calls Tryd.prog 22 #[.slice o b.length c] w fun e w' => e = .returned (.tuple #[.agg (pmA (Da.out15 b)), .int .i64 ((Da.prn15 b : Nat) : Int)]) ∧ Below w.heap.size w w' := by
  by_cases h9 : b.length = 9
  · match b, h9 with
    | [x0, x1, x2, x3, x4, x5, x6, x7, x8], _ => exact rparse15_nine x0 x1 x2 x3 x4 x5 x6 x7 x8 o c w hR
  · have e1 : Da.prn15 b = 8 := by unfold Da.prn15; rw [if_neg h9]
    have e2 : Da.out15 b = Da.zero15 := by unfold Da.out15; rw [e1]; rfl
    rw [e1, e2]
    exact rparse15_len o b.length c h9 hl w
end Go.Proofs.YtomkkkbdipcjgaaDoor
namespace Go.Proofs.YtomkkkbdipcjgaaDoor
open Go.RowKit
set_option linter.unusedVariables false
set_option linter.unusedSimpArgs false
def c15 (r : Nat) : UInt8 := UInt8.ofNat (48 + r)
theorem itoa_p (u : Nat) : Lib.itoa (u : Int) = Lib.decDigits u := by unfold Lib.itoa; rw [if_neg (by omega)]; simp
theorem itoa_n (u : Nat) (h : 1 ≤ u) : Lib.itoa (-(u : Int)) = 45 :: Lib.decDigits u := by unfold Lib.itoa; rw [if_pos (by omega)]; simp
theorem dec_small {u : Nat} (h : u < 10) : Lib.decDigits u = [c15 u] := by rw [Lib.decDigits, dif_pos h]; rfl
theorem dec_big {u : Nat} (h : ¬ u < 10) : Lib.decDigits u = Lib.decDigits (u / 10) ++ [c15 (u % 10)] := by rw [Lib.decDigits, dif_neg h]; rfl
set_option maxRecDepth 100000 in
theorem dec_sl (r : Nat) (h : r < 10) (W : World) : (Instr.slice 9 (.string ⟨#[48, 49, 50, 51, 52, 53, 54, 55, 56, 57]⟩) (some (.int .i64 (r : Int))) (some (.int .i64 ((r : Int) + 1))) none).run Tryd.prog W = .ok (.string ⟨#[c15 r]⟩) W := by
  match r, h with
  | 0, _ | 1, _ | 2, _ | 3, _ | 4, _ | 5, _ | 6, _ | 7, _ | 8, _ | 9, _ => rfl
  | n + 10, h => omega
set_option maxRecDepth 100000 in
set_option maxHeartbeats 1000000 in
theorem figp_any (u : Nat) : ∀ (hu : u ≤ 9223372036854775807) (w : World), Calls Tryd.prog 28 #[.int .i64 (u : Int)] w fun e w' => e = .returned (.string ⟨(Lib.itoa (u : Int)).toArray⟩) ∧ Below w.heap.size w w' := by
  induction u using Nat.strongRecOn with
  | ind u ih =>
    intro hu w
    obtain ⟨r, hr⟩ : ∃ r, u % 10 = r := ⟨_, rfl⟩
    have hr10 : r < 10 := by omega
    have ht : Int.tmod (u : Int) 10 = (r : Int) := by rw [← hr, show (10 : Int) = ((10 : Nat) : Int) from rfl, ← Int.ofNat_tmod]
    have hq : Int.tdiv (u : Int) 10 = ((u / 10 : Nat) : Int) := by rw [show (10 : Int) = ((10 : Nat) : Int) from rfl, ← Int.ofNat_tdiv]
    have hw1 : IntKind.i64.wrap ((r : Int) + 1) = (r : Int) + 1 := by rw [IntKind.wrap_i64]; omega
    have hw2 : IntKind.i64.wrap (r : Int) = (r : Int) := by rw [IntKind.wrap_i64]; omega
    have hsl := dec_sl r hr10
    obtain ⟨CC, hCC⟩ : ∃ CC : ByteArray, (⟨#[c15 r]⟩ : ByteArray) = CC := ⟨_, rfl⟩
    have hcz : CC.size = 1 := by rw [← hCC]; rfl
    rw [hCC] at hsl
    have hd1 : decide ((u : Int) ≥ 0) = true := decide_eq_true (by omega)
    have hd2 : decide ((u : Int) > -10) = true := decide_eq_true (by omega)
    have hd4 : decide (-10 < (u : Int)) = true := decide_eq_true (by omega)
    by_cases h10 : u < 10
    · have e : Lib.itoa (u : Int) = [c15 r] := by rw [itoa_p, dec_small h10, ← hr, Nat.mod_eq_of_lt h10]
      have hd3 : decide ((u : Int) < 10) = true := decide_eq_true (by omega)
      have hd5 : decide (u < 10) = true := decide_eq_true h10
      have hadd : ∀ W, (Op.stringOp .add ⟨#[]⟩ CC).run Tryd.prog W = .ok (.string CC) W := fun W => by
        have := run_string_add_sum (P := Tryd.prog) W ⟨#[]⟩ CC (by rw [hcz]; decide)
        rw [this]
        rw [← hCC]
        rfl
      have HCC := Lib.hid hCC
      have HE := Lib.hid e
      clear hCC e hr hcz ih h10 hu hr10
      go_enter Tryd.func28, Tryd.ntmps28
      go_wp2_with fail
      go_ret
      exact ⟨by rw [HE.out, ← HCC.out]; rfl, Below.refl _ _⟩
    · have e : Lib.itoa (u : Int) = Lib.itoa ((u / 10 : Nat) : Int) ++ [c15 r] := by rw [itoa_p, itoa_p, dec_big h10, ← hr]
      have hd3 : decide ((u : Int) < 10) = false := decide_eq_false (by omega)
      have hd5 : decide (u < 10) = false := decide_eq_false h10
      have IH := ih (u / 10) (by omega) (by omega) w
      have hlen := Lib.itoa_length_le ((u / 10 : Nat) : Int) (by omega) (by omega)
      obtain ⟨K, hK⟩ : ∃ K, Lib.itoa ((u / 10 : Nat) : Int) = K := ⟨_, rfl⟩
      rw [hK] at IH hlen e
      have hadd : ∀ W, (Op.stringOp .add ⟨K.toArray⟩ CC).run Tryd.prog W = .ok (.string ⟨(K ++ [c15 r]).toArray⟩) W := fun W => by
        have := run_string_add_sum (P := Tryd.prog) W ⟨K.toArray⟩ CC (by rw [hcz]; show K.toArray.size + 1 ≤ _; simp only [List.size_toArray]; omega)
        rw [this, ← hCC]
        congr 2
      have HIH := Lib.hid IH
      have HCC := Lib.hid hCC
      have HE := Lib.hid e
      obtain ⟨q, hqq⟩ : ∃ q, u / 10 = q := ⟨_, rfl⟩
      have hw3 : IntKind.i64.wrap (q : Int) = (q : Int) := by rw [IntKind.wrap_i64]; omega
      rw [hqq] at hq HIH
      clear hCC e hr hcz ih h10 hu hr10 IH hlen hK hqq
      go_enter Tryd.func28, Tryd.ntmps28
      go_wp2_with fail
      refine HIH.out.mono ?_
      rintro e W1 ⟨rfl, hb⟩
      go_wp2_with fail
      go_ret
      exact ⟨by rw [HE.out]; rfl, hb⟩
set_option maxRecDepth 100000 in
set_option maxHeartbeats 1000000 in
theorem fign_any (u : Nat) : ∀ (h1 : 1 ≤ u) (hu : u ≤ 9223372036854775808) (w : World), Calls Tryd.prog 28 #[.int .i64 (-(u : Int))] w fun e w' => e = .returned (.string ⟨(Lib.itoa (-(u : Int))).toArray⟩) ∧ Below w.heap.size w w' := by
  induction u using Nat.strongRecOn with
  | ind u ih =>
    intro h1 hu w
    obtain ⟨r, hr⟩ : ∃ r, u % 10 = r := ⟨_, rfl⟩
    have hr10 : r < 10 := by omega
    have ht : Int.tmod (-(u : Int)) 10 = -(r : Int) := by rw [Int.neg_tmod, ← hr, show (10 : Int) = ((10 : Nat) : Int) from rfl, ← Int.ofNat_tmod]
    have hq : Int.tdiv (-(u : Int)) 10 = -((u / 10 : Nat) : Int) := by rw [Int.neg_tdiv, show (10 : Int) = ((10 : Nat) : Int) from rfl, ← Int.ofNat_tdiv]
    have hsl := dec_sl r hr10
    obtain ⟨CC, hCC⟩ : ∃ CC : ByteArray, (⟨#[c15 r]⟩ : ByteArray) = CC := ⟨_, rfl⟩
    have hcz : CC.size = 1 := by rw [← hCC]; rfl
    rw [hCC] at hsl
    obtain ⟨R, hR⟩ : ∃ R : Int, -(r : Int) = R := ⟨_, rfl⟩
    have hw0 : IntKind.i64.wrap R = R := by rw [IntKind.wrap_i64]; omega
    have hng : -R = (r : Int) := by omega
    have hw1 : IntKind.i64.wrap ((r : Int) + 1) = (r : Int) + 1 := by rw [IntKind.wrap_i64]; omega
    have hw2 : IntKind.i64.wrap (r : Int) = (r : Int) := by rw [IntKind.wrap_i64]; omega
    rw [hR] at ht
    have hd1 : decide (-(u : Int) ≥ 0) = false := decide_eq_false (by omega)
    have hd6 : decide (0 ≤ -(u : Int)) = false := decide_eq_false (by omega)
    have hd3 : decide (-(u : Int) < 10) = true := decide_eq_true (by omega)
    by_cases h10 : u < 10
    · have e : Lib.itoa (-(u : Int)) = [45, c15 r] := by rw [itoa_n u h1, dec_small h10, ← hr, Nat.mod_eq_of_lt h10]
      have hd2 : decide (-(u : Int) > -10) = true := decide_eq_true (by omega)
      have hd4 : decide (-10 < -(u : Int)) = true := decide_eq_true (by omega)
      have hadd : ∀ W, (Op.stringOp .add ⟨#[45]⟩ CC).run Tryd.prog W = .ok (.string ⟨#[45, c15 r]⟩) W := fun W => by
        have := run_string_add_sum (P := Tryd.prog) W ⟨#[45]⟩ CC (by rw [hcz]; decide)
        rw [this]
        rw [← hCC]
        rfl
      obtain ⟨n, hn⟩ : ∃ n : Int, -(u : Int) = n := ⟨_, rfl⟩
      rw [hn] at ht hq hd1 hd6 hd3 hd2 hd4 e ⊢
      have HE := Lib.hid e
      clear hCC e hr hcz ih h10 hu hr10 h1 hn hR hq
      go_enter Tryd.func28, Tryd.ntmps28
      go_wp2_with fail
      go_ret
      exact ⟨by rw [HE.out]; rfl, Below.refl _ _⟩
    · have e : Lib.itoa (-(u : Int)) = Lib.itoa (-((u / 10 : Nat) : Int)) ++ [c15 r] := by rw [itoa_n u h1, itoa_n (u / 10) (by omega), dec_big h10, ← hr]; rfl
      have hd2 : decide (-(u : Int) > -10) = false := decide_eq_false (by omega)
      have hd4 : decide (-10 < -(u : Int)) = false := decide_eq_false (by omega)
      have IH := ih (u / 10) (by omega) (by omega) (by omega) w
      have hlen := Lib.itoa_length_le (-((u / 10 : Nat) : Int)) (by omega) (by omega)
      obtain ⟨q, hqq⟩ : ∃ q : Int, -((u / 10 : Nat) : Int) = q := ⟨_, rfl⟩
      have hw3 : IntKind.i64.wrap q = q := by rw [IntKind.wrap_i64]; omega
      rw [hqq] at hq IH hlen e
      obtain ⟨K, hK⟩ : ∃ K, Lib.itoa q = K := ⟨_, rfl⟩
      rw [hK] at IH hlen e
      have hadd : ∀ W, (Op.stringOp .add ⟨K.toArray⟩ CC).run Tryd.prog W = .ok (.string ⟨(K ++ [c15 r]).toArray⟩) W := fun W => by
        have := run_string_add_sum (P := Tryd.prog) W ⟨K.toArray⟩ CC (by rw [hcz]; show K.toArray.size + 1 ≤ _; simp only [List.size_toArray]; omega)
        rw [this, ← hCC]
        congr 2
      obtain ⟨n, hn⟩ : ∃ n : Int, -(u : Int) = n := ⟨_, rfl⟩
      rw [hn] at ht hq hd1 hd6 hd3 hd2 hd4 e ⊢
      have HIH := Lib.hid IH
      have HE := Lib.hid e
      clear hCC e hr hcz ih h10 hu hr10 IH hlen hK hqq h1 hn hR
      go_enter Tryd.func28, Tryd.ntmps28
      go_wp2_with fail
      refine HIH.out.mono ?_
      rintro e W1 ⟨rfl, hb⟩
      go_wp2_with fail
      go_ret
      exact ⟨by rw [HE.out]; rfl, hb⟩
theorem fig_any (n : Int) (h0 : -9223372036854775808 ≤ n) (h1 : n ≤ 9223372036854775807) (w : World) : Calls Tryd.prog 28 #[.int .i64 n] w fun e w' => e = .returned (.string ⟨(Lib.itoa n).toArray⟩) ∧ Below w.heap.size w w' := by
  by_cases h : 0 ≤ n
  · have := figp_any n.toNat (by omega) w
    rw [show ((n.toNat : Nat) : Int) = n by omega] at this
    exact this
  · have := fign_any (-n).toNat (by omega) (by omega) w
    rw [show (-(((-n).toNat : Nat) : Int)) = n by omega] at this
    exact this
end Go.Proofs.YtomkkkbdipcjgaaDoor
