/- TreeNodes. -/
import Derived.Test.YtmfbdelhkdimaaaDoorTh
namespace Go.Proofs.YtmfbdelhkdimaaaDoor
open Go.RowKit
set_option linter.unusedVariables false
set_option linter.unusedSimpArgs false
section
variable {P : Program} {md : Region.Mode} {ops : Array Oper} {Q : Exit → Act → World → Prop} {S : World → Prop} {fuel : Nat} {listed : Array Bool} {a : Act} {w : World}
theorem takeHG {i : Nat} {o : Oper} {d : Tmp} {x : Value} (hi : ops[i]? = some o) (hd : o.dst = some d)
    (hs : Region.noSelect ops = true) (hf : Region.free md ops listed i = true) (hr : (Region.ready md ops listed).contains i = true)
    (hQ : ∀ c a w, Q (.panic c) (a.put o.dst x) w → Q (.panic c) a w) (hy : YieldsIf P ops S o x a) (hS : S w)
    (h : wpAnyH P md ops Q S fuel (listed.setIfInBounds i true) { a with tmps := a.tmps.setIfInBounds d x } w) : wpAnyH P md ops Q S (fuel + 1) listed a w :=
  wpAnyH_take hi hs hf hr hQ hy hS (by rw [hd]; exact h)
theorem wpOp_of {i : Nat} {o : Oper} {K : Act → World → Prop} (ho : ops[i]? = some o) (hw : Region.wanted o (yielded ops a.tmps) = true) (h : o.wp P a w K Q) : wpOp P ops Q i K a w := by
  unfold wpOp
  rw [ho]
  dsimp only
  rw [if_pos hw]
  exact .inl h
/-- the one operation that may come -/
theorem readyH {i : Nat} {o : Oper} (hr : Region.ready md ops listed = [i]) (ho : ops[i]? = some o) (hw : Region.wanted o (yielded ops a.tmps) = true)
    (h : ∀ K : Act → World → Prop, (∀ a' w', S w' → wpAnyH P md ops Q S fuel (listed.setIfInBounds i true) a' w' → K a' w') → o.wp P a w K Q) : wpAnyH P md ops Q S (fuel + 1) listed a w :=
  wpAnyH_all hr (by simp) fun j hj => by
    obtain rfl : j = i := by simpa using hj
    exact wpOp_of ho hw (h _ fun a' w' h1 h2 => ⟨h1, h2⟩)
/-- either of two -/
theorem readyH2 {i j : Nat} {o o' : Oper} (hr : Region.ready md ops listed = [i, j]) (ho : ops[i]? = some o) (ho' : ops[j]? = some o') (hw : Region.wanted o (yielded ops a.tmps) = true) (hw' : Region.wanted o' (yielded ops a.tmps) = true)
    (h : ∀ K : Act → World → Prop, (∀ a' w', S w' → wpAnyH P md ops Q S fuel (listed.setIfInBounds i true) a' w' → K a' w') → o.wp P a w K Q)
    (h' : ∀ K : Act → World → Prop, (∀ a' w', S w' → wpAnyH P md ops Q S fuel (listed.setIfInBounds j true) a' w' → K a' w') → o'.wp P a w K Q) : wpAnyH P md ops Q S (fuel + 1) listed a w :=
  wpAnyH_all hr (by simp) fun k hk => by
    rcases (by simpa using hk : k = i ∨ k = j) with rfl | rfl
    · exact wpOp_of ho hw (h _ fun a' w' h1 h2 => ⟨h1, h2⟩)
    · exact wpOp_of ho' hw' (h' _ fun a' w' h1 h2 => ⟨h1, h2⟩)
theorem exec_row {P : Program} {o : Oper} {a : Act} {w : World} {ty t : TypeId} {x : Operand} {g : Nat} {cs : Array Value} {fr : Nat × Nat} {d : TypeDesc} (ho : o.op = .load ty x) (hx : a.eval x = .pointer (some ⟨g, 0, none⟩)) (hg : w.heap[g]? = some (.cells cs t fr))
    (hu : P.underlying ty = some d) (hd : (match d with | .struct _ | .array _ _ => true | _ => false) = true) (hi : (P.info? ty).map (·.size) = some cs.size) : (execOp a.eval o).run P w = .ok (.value (.agg cs)) w := by
  unfold execOp
  simp only [ho, hx, Instr.loadAt, Instr.sureAddr, Sem.run_bind, Sem.run_pure, Result.andThen_ok, run_loadVar_row w g t ty cs fr d hg hu hd hi]
end
set_option maxRecDepth 100000 in
set_option maxHeartbeats 1500000 in
theorem tn12_of (Z Y : Array Value) (hZ : Z = (bytesV (List.replicate 32 0)).toArray) (hzs : ∀ w, Sem.run Tryd.prog (zeroValue 32) w = .ok (.agg Z) w) (hY : Y = (bytesV (List.replicate 32 0)).toArray) (hys : ∀ w, Sem.run Tryd.prog (zeroValue 31) w = .ok (.agg Y) w)
    (l r : List UInt8) (hl : l.length = 32) (hr : r.length = 32) (b : List UInt8) (o : Option Addr) (c : Nat) (w : World) (hR : RowIs w o (bytesV b) c) (hV : Cds w) (hD : Rds w) :
    Calls Tryd.prog 4 #[.agg (bytesV l).toArray, .agg (bytesV r).toArray, .slice o b.length c] w fun e w' => e = .returned (.bool true) ∧ Below w.heap.size w w' := by
  have hrc := hR.le
  have hrm := hR.cap
  rw [bytesV_length] at hrc
  unfold maxLen at hrm
  obtain ⟨g, hg⟩ : ∃ g, w.heap.size = g := ⟨_, rfl⟩
  obtain ⟨W1, hW1⟩ : ∃ W1, w.alloc (.cells (bytesV l).toArray 31) = W1 := ⟨_, rfl⟩
  obtain ⟨W2, hW2⟩ : ∃ W2, W1.alloc (.cells (bytesV r).toArray 31) = W2 := ⟨_, rfl⟩
  have hb1 : Below w.heap.size w W1 := by rw [← hW1]; exact new12 _ _
  have hb2 : Below W1.heap.size W1 W2 := by rw [← hW2]; exact new12 _ _
  have hs1 : W1.heap.size = g + 1 := by rw [← hW1, World.size_alloc, hg]
  have hA1 : Arr W1 g 31 (bytesV l) := by rw [← hW1, ← hg]; exact Arr.made _ _ _
  have hA2 : Arr W2 (g + 1) 31 (bytesV r) := by rw [← hW2, ← hs1]; exact Arr.made _ _ _
  have hB2 := Kit.step hb1 hb2
  have AL := Lib.hid (alive12_any W2)
  have HA1 := Lib.hid (hA1.later hb2 hA1.lt)
  have HA2 := Lib.hid hA2
  have HB2 := Lib.hid hB2
  have HR2 := Lib.hid (hR.later hB2)
  have HV2 := Lib.hid (hV.later hB2)
  have HD2 := Lib.hid (hD.later hB2)
  have HW1 := Lib.hid hW1
  have HW2 := Lib.hid hW2
  have HS1 := Lib.hid hs1
  have HG := Lib.hid hg
  obtain ⟨LA, hLA⟩ : ∃ LA, (bytesV l).toArray = LA := ⟨_, rfl⟩
  obtain ⟨RA, hRA⟩ : ∃ RA, (bytesV r).toArray = RA := ⟨_, rfl⟩
  obtain ⟨NA, hNA⟩ : ∃ NA, (bytesV (Da.nd l r)).toArray = NA := ⟨_, rfl⟩
  obtain ⟨BA, hBA⟩ : ∃ BA, (bytesV (Da.lf b)).toArray = BA := ⟨_, rfl⟩
  obtain ⟨L, hL⟩ : ∃ L, b.length = L := ⟨_, rfl⟩
  have HLL := Lib.hid hl
  have HRL := Lib.hid hr
  have HLA := Lib.hid hLA
  have HRA := Lib.hid hRA
  have HNA := Lib.hid hNA
  have HBA := Lib.hid hBA
  have HL := Lib.hid hL
  have HZS : Hid (Z.size = 32) := Lib.hid (by rw [hZ]; simp)
  have HYS : Hid (Y.size = 32) := Lib.hid (by rw [hY]; simp)
  have HLS : Hid ((Tryd.prog.info? 31).map (·.size) = some LA.size) := Lib.hid (by rw [d32_info, ← hLA]; simp [hl])
  have HRS : Hid ((Tryd.prog.info? 31).map (·.size) = some RA.size) := Lib.hid (by rw [d32_info, ← hRA]; simp [hr])
  have HLT : Hid ((Tryd.prog.info? 32).map (·.size) = some LA.size) := Lib.hid (by rw [dg_info, ← hLA]; simp [hl])
  have HRT : Hid ((Tryd.prog.info? 32).map (·.size) = some RA.size) := Lib.hid (by rw [dg_info, ← hRA]; simp [hr])
  have HNS : Hid ((Tryd.prog.info? 31).map (·.size) = some NA.size) := Lib.hid (by rw [d32_info, ← hNA]; simp [Da.nd_length])
  have HLO : Hid (LA.all (·.oneCell') = true) := Lib.hid (by rw [← hLA]; exact all_oneCell_toArray (bytesV_one _))
  have HRO : Hid (RA.all (·.oneCell') = true) := Lib.hid (by rw [← hRA]; exact all_oneCell_toArray (bytesV_one _))
  have HNO : Hid (NA.all (·.oneCell') = true) := Lib.hid (by rw [← hNA]; exact all_oneCell_toArray (bytesV_one _))
  have HZL : Hid (Z.size = LA.size) := Lib.hid (by rw [HZS.out, ← hLA]; simp [hl])
  have HZR : Hid (Z.size = RA.size) := Lib.hid (by rw [HZS.out, ← hRA]; simp [hr])
  have HYN : Hid (Y.size = NA.size) := Lib.hid (by rw [HYS.out, ← hNA]; simp [Da.nd_length])
  rw [hLA] at HW1 ⊢
  rw [hRA] at HW2 ⊢
  rw [hL] at hrc ⊢
  clear hR hV hD hb1 hb2 hs1 hA1 hA2 hB2 hW1 hW2 hg hLA hRA hNA hBA hL hl hr hZ hY
  go_enter Tryd.func4, Tryd.ntmps4
  go_upto_region 1 with fail
  rw [HW1.out, HW2.out, HG.out]
  go_wp2_with fail
  refine AL.out.mono ?_
  rintro e W3 ⟨rfl, hb3⟩
  have HB3 := Lib.hid (Kit.step HB2.out hb3)
  have hA13 := HA1.out.later hb3 HA1.out.lt
  have hA23 := HA2.out.later hb3 HA2.out.lt
  have HA13 := Lib.hid hA13
  have HA23 := Lib.hid hA23
  have HR3 := Lib.hid (HR2.out.later hb3)
  have HV3 := Lib.hid (HV2.out.later hb3)
  have HD3 := Lib.hid (HD2.out.later hb3)
  have HL1 : Hid (∀ v, Below W3.heap.size W3 v → v.heap[g]? = some (.cells LA 31 (0, 0))) := Lib.hid fun v hb => by rw [← HLA.out]; exact hA13.later hb hA13.lt
  have HL2 : Hid (∀ v, Below W3.heap.size W3 v → v.heap[g + 1]? = some (.cells RA 31 (0, 0))) := Lib.hid fun v hb => by rw [← HRA.out]; exact hA23.later hb hA23.lt
  clear hb3 AL hA13 hA23 HA1 HA2 HR2 HV2 HD2
  by_cases hlong : 300 < L
  · have hd : decide ((L : Int) > 300) = true := by simp; omega
    go_wp2_with fail
    go_ret
    exact ⟨rfl, HB3.out⟩
  have hd : decide ((L : Int) > 300) = false := by simp; omega
  obtain ⟨C, hC⟩ : ∃ C : World → Prop, (fun v => Below W3.heap.size W3 v) = C := ⟨_, rfl⟩
  have hC0 : C { W3 with drawn := W3.drawn + 1 } := by rw [← hC]; exact Kit.dn' W3 1
  have HCm : Hid (∀ v, C v → Below W3.heap.size W3 v) := Lib.hid fun v hv => by rw [← hC] at hv; exact hv
  have HCi : Hid (∀ v, Below W3.heap.size W3 v → C v) := Lib.hid fun v hv => by rw [← hC]; exact hv
  have HAB : Hid (∀ v o, C v → C (v.alloc o)) := Lib.hid fun v o hv => HCi.out _ ((HCm.out v hv).alloc (HCm.out v hv).size _)
  have HROW : Hid (∀ v p F, C v → W3.heap.size ≤ p → C (v.setRow p F)) := Lib.hid fun v p F hv hp => HCi.out _ ((HCm.out v hv).trans (below_row hp))
  clear hC
  go_upto_region 5 with fail
  refine wp_region_held (S := C) (by kernel_rfl) ?_
  refine takeHG (i := 0) (x := .agg LA) rfl rfl (by kernel_rfl) (by kernel_rfl) (by kernel_rfl) (fun _ _ _ h => h) (Or.inl ⟨by kernel_rfl, fun w hw => exec_row (t := 31) (fr := (0, 0)) rfl rfl (HL1.out w (HCm.out w hw)) d32_under rfl HLS.out⟩) hC0 ?_
  simp only [List.setIfInBounds_toArray, List.set_cons_zero, List.set_cons_succ]
  refine takeHG (i := 1) (x := .agg RA) rfl rfl (by kernel_rfl) (by kernel_rfl) (by kernel_rfl) (fun _ _ _ h => h) (Or.inl ⟨by kernel_rfl, fun w hw => exec_row (t := 31) (fr := (0, 0)) rfl rfl (HL2.out w (HCm.out w hw)) d32_under rfl HRS.out⟩) hC0 ?_
  simp only [List.setIfInBounds_toArray, List.set_cons_zero, List.set_cons_succ]
  have HXS : Hid (W3.heap.size ≤ ({ W3 with drawn := W3.drawn + 1 } : World).heap.size) := Lib.hid (Nat.le_refl _)
  obtain ⟨X, hX⟩ : ∃ X, ({ W3 with drawn := W3.drawn + 1 } : World) = X := ⟨_, rfl⟩
  rw [hX] at hC0 HXS ⊢
  clear hX
  obtain ⟨X1, hX1⟩ : ∃ X1, X.alloc (.cells Z 32) = X1 := ⟨_, rfl⟩
  obtain ⟨X2, hX2⟩ : ∃ X2, X1.alloc (.cells Z 32) = X2 := ⟨_, rfl⟩
  have HX1 := Lib.hid hX1
  have HX2 := Lib.hid hX2
  clear hX1 hX2
  refine readyH2 (i := 2) (j := 3) (by kernel_rfl) rfl rfl (by kernel_rfl) (by kernel_rfl) (fun K hK => ?_) (fun K hK => ?_)
  · obtain ⟨p7, hp7⟩ : ∃ p, X.heap.size = p := ⟨_, rfl⟩
    go_simp
    rw [HX1.out]
    refine hK _ _ (by rw [← HX1.out]; exact HAB.out _ _ hC0) ?_
    clear hK K
    refine readyH (i := 3) (by kernel_rfl) rfl (by kernel_rfl) (fun K hK => ?_)
    obtain ⟨p8, hp8⟩ : ∃ p, X1.heap.size = p := ⟨_, rfl⟩
    go_simp
    rw [HX2.out]
    have hC2 : C X2 := by rw [← HX2.out, ← HX1.out]; exact HAB.out _ _ (HAB.out _ _ hC0)
    refine hK _ _ hC2 ?_
    clear hK K
    have hz1 : X2.heap[p7]? = some (.cells Z 32 (0, 0)) := by
      have h1 : Arr X1 X.heap.size 32 Z.toList := by rw [← HX1.out]; exact Arr.made _ _ _
      rw [← HX2.out, ← hp7]
      exact h1.alloc _
    have hz2 : X2.heap[p8]? = some (.cells Z 32 (0, 0)) := by rw [← HX2.out, ← hp8]; exact World.alloc_heap_new _ _
    have hne : p7 ≠ p8 := by
      have h1 : X1.heap.size = X.heap.size + 1 := by rw [← HX1.out, World.size_alloc]
      omega
    have hw1 : W3.heap.size ≤ p7 := by
      have h1 : X1.heap.size = X.heap.size + 1 := by rw [← HX1.out, World.size_alloc]
      have := HXS.out
      omega
    have hw2 : W3.heap.size ≤ p8 := by
      have h1 : X1.heap.size = X.heap.size + 1 := by rw [← HX1.out, World.size_alloc]
      have := HXS.out
      omega
    obtain ⟨X3, hX3⟩ : ∃ X3, X2.setRow p7 LA = X3 := ⟨_, rfl⟩
    obtain ⟨X4, hX4⟩ : ∃ X4, X3.setRow p8 RA = X4 := ⟨_, rfl⟩
    have hC3 : C X3 := by rw [← hX3]; exact HROW.out _ _ _ hC2 hw1
    have hC4 : C X4 := by rw [← hX4]; exact HROW.out _ _ _ hC3 hw2
    have hx7 : X2.heap[p7]? = some (.cells Z 32 (0, 0)) := by assumption
    have hx8 : X2.heap[p8]? = some (.cells Z 32 (0, 0)) := by assumption
    have hy8 : X3.heap[p8]? = some (.cells Z 32 (0, 0)) := by rw [← hX3, setRow_other X2 p7 p8 LA (by omega)]; exact hx8
    have hy7 : X3.heap[p7]? = some (.cells LA 32 (0, 0)) := by rw [← hX3]; exact setRow_heap _ _ _ _ _ _ hx7
    have hv7 : Arr X4 p7 32 (bytesV l) := by unfold Arr; rw [← hX4, setRow_other X3 p8 p7 RA hne, HLA.out]; exact hy7
    have hv8 : Arr X4 p8 32 (bytesV r) := by unfold Arr; rw [← hX4, HRA.out]; exact setRow_heap _ _ _ _ _ _ hy8
    have HF5 : Hid (C X4 ∧ Arr X4 p7 32 (bytesV l) ∧ Arr X4 p8 32 (bytesV r) ∧ W3.heap.size ≤ p7 ∧ W3.heap.size ≤ p8) := Lib.hid ⟨hC4, hv7, hv8, hw1, hw2⟩
    have HX7' := Lib.hid hx7
    have HY8 := Lib.hid hy8
    have HX3 := Lib.hid hX3
    have HX4 := Lib.hid hX4
    clear hz1 hz2 hne hw1 hw2 hx7 hx8 hy8 hy7 hv7 hv8 hX3 hX4 hp7 hp8
    refine readyH (i := 4) (by kernel_rfl) rfl (by kernel_rfl) (fun K hK => ?_)
    refine wp_store_row 32 (.tmp 7) (.tmp 15) rfl p7 LA rfl rfl 32 Z HX7'.out HLT.out HZL.out HLO.out ?_
    rw [HX3.out]
    refine hK _ _ hC3 ?_
    clear hK K
    refine readyH (i := 5) (by kernel_rfl) rfl (by kernel_rfl) (fun K hK => ?_)
    refine wp_store_row 32 (.tmp 8) (.tmp 16) rfl p8 RA rfl rfl 32 Z HY8.out HRT.out HZR.out HRO.out ?_
    rw [HX4.out]
    refine hK _ _ hC4 ?_
    clear hK K
    refine wpAnyH_done (by kernel_rfl) ?_ _
    clear hC0 hC2 hC3 hC4 HX1 HX2 HX3 HX4 HX7' HY8 HXS
    have hAA := HF5.out
    obtain ⟨hC4, h7a, h8a, h7w, h8w⟩ := hAA
    have HC4 := Lib.hid hC4
    have hbX := HCm.out X4 hC4
    have RN := rnode_any l r HLL.out HRL.out X4 (HD3.out.later hbX)
    rw [HLA.out, HRA.out, HNA.out] at RN
    have HRN := Lib.hid RN
    have HG1 := Lib.hid (HL1.out X4 hbX)
    have HG2 := Lib.hid (HL2.out X4 hbX)
    have HBX := Lib.hid hbX
    have H7 := Lib.hid h7a
    have H8 := Lib.hid h8a
    clear RN hbX hC4 h7a h8a HF5
    go_upto_region 6 with fail
    apply wp_region_lit
    refine wpList_load_row rfl 31 (.tmp 3) rfl g rfl 31 LA (0, 0) _ HG1.out d32_under rfl HLS.out ?_
    refine wpList_load_row rfl 31 (.tmp 4) rfl (g + 1) rfl 31 RA (0, 0) _ HG2.out d32_under rfl HRS.out ?_
    (refine wpList_plain rfl (fun K hK => ?_); go_simp)
    refine HRN.out.mono ?_
    rintro e X5 ⟨rfl, hb5⟩
    refine hK _ _ ?_
    clear hK K HRN
    obtain ⟨X6, hX6⟩ : ∃ X6, X5.alloc (.cells Y 31) = X6 := ⟨_, rfl⟩
    obtain ⟨p9, hp9⟩ : ∃ p, X5.heap.size = p := ⟨_, rfl⟩
    obtain ⟨X7, hX7⟩ : ∃ X7, X6.setRow p9 NA = X7 := ⟨_, rfl⟩
    have hA6 : Arr X6 p9 31 Y.toList := by rw [← hX6, ← hp9]; exact Arr.made _ _ _
    have hb6 : Below X5.heap.size X5 X6 := by rw [← hX6]; exact new12 _ _
    have hb7 : Below X5.heap.size X5 X7 := by rw [← hX7]; exact hb6.trans (below_row (Nat.le_of_eq hp9))
    have hb47 := Kit.step hb5 hb7
    have hA7 : Arr X7 p9 31 (bytesV (Da.nd l r)) := by rw [← hX7, ← HNA.out]; exact setRow_heap _ _ _ _ _ _ hA6
    have h77 := H7.out.later hb47 H7.out.lt
    have h87 := H8.out.later hb47 H8.out.lt
    have hb37 := Kit.step HBX.out hb47
    have HA6 : Hid (X6.heap[p9]? = some (.cells Y 31 (0, 0))) := Lib.hid hA6
    have HX6 := Lib.hid hX6
    have HX7 := Lib.hid hX7
    have HP9 := Lib.hid hp9
    have HB7 := Lib.hid (Kit.step HB3.out hb37)
    have K7 : Hid (∀ v, Below X7.heap.size X7 v → v.heap[p7]? = some (.cells LA 32 (0, 0))) := Lib.hid fun v hb => by rw [← HLA.out]; exact h77.later hb h77.lt
    have K8 : Hid (∀ v, Below X7.heap.size X7 v → v.heap[p8]? = some (.cells RA 32 (0, 0))) := Lib.hid fun v hb => by rw [← HRA.out]; exact h87.later hb h87.lt
    have K9 : Hid (∀ v, Below X7.heap.size X7 v → v.heap[p9]? = some (.cells NA 31 (0, 0))) := Lib.hid fun v hb => by rw [← HNA.out]; exact hA7.later hb hA7.lt
    have HR7 := Lib.hid (HR3.out.later hb37)
    have HV7 := Lib.hid (HV3.out.later hb37)
    have HD7 := Lib.hid (HD3.out.later hb37)
    clear hX6 hp9 hX7 hA6 hb6 hb7 hb47 hA7 h77 h87 hb37 hb5
    (refine wpList_plain rfl (fun K hK => ?_); go_simp; refine hK _ _ ?_; clear hK K)
    rw [HX6.out, HP9.out]
    refine wpList_store_row rfl 31 (.tmp 9) (.tmp 19) rfl p9 NA rfl rfl 31 Y HA6.out HNS.out HYN.out HNO.out ?_
    rw [HX7.out]
    clear HX6 HX7 HP9 HA6 HG1 HG2 H7 H8 HBX HC4 HCm HCi HAB HROW
    go_upto_region 7 with fail
    have TN := tnode_any l r HLL.out HRL.out
    rw [HLA.out, HRA.out, HNA.out] at TN
    have TI := tinner_any l r HLL.out HRL.out
    rw [HLA.out, HRA.out] at TI
    have HTN : Hid (∀ v, Below X7.heap.size X7 v → Calls Tryd.prog 18 #[.agg LA, .agg RA] v fun e w' => e = .returned (.agg NA) ∧ Below X7.heap.size X7 w') := Lib.hid fun v hb => (TN v (HV7.out.later hb)).mono fun e w' h => ⟨h.1, Kit.step hb h.2⟩
    have HTI : Hid (∀ v, Below X7.heap.size X7 v → Calls Tryd.prog 20 #[.agg LA, .agg RA] v fun e w' => ∃ g cap, e = .returned (.slice (some ⟨g, 0, none⟩) 65 cap) ∧ Buf w' g cap (1 :: (l ++ r)) ∧ Below X7.heap.size X7 w') := Lib.hid fun v hb => (TI v).mono fun e w' ⟨g, cap, h1, _, h3, h4⟩ => ⟨g, cap, h1, h3, Kit.step hb h4⟩
    have HRI : Hid (∀ v g cap, Below X7.heap.size X7 v → Buf v g cap (1 :: (l ++ r)) → Calls Tryd.prog 19 #[.slice (some ⟨g, 0, none⟩) 65 cap] v fun e w' => e = .returned (.agg NA) ∧ Below X7.heap.size X7 w') := Lib.hid fun v g cap hb hbuf => by
      have := rof_any (1 :: (l ++ r)) _ cap v hbuf.row (HD7.out.later hb) (by simp [HLL.out, HRL.out])
      rw [show (1 :: (l ++ r) : List UInt8).length = 65 by simp [HLL.out, HRL.out], show Da.sha (1 :: (l ++ r)) = Da.nd l r from rfl, HNA.out] at this
      exact this.mono fun e w' h => ⟨h.1, Kit.step hb h.2⟩
    have HTO : Hid (∀ v, Below X7.heap.size X7 v → Calls Tryd.prog 21 #[.slice o L c] v fun e w' => ∃ g cap, e = .returned (.slice (some ⟨g, 0, none⟩) (L + 1) cap) ∧ Buf w' g cap (0 :: b) ∧ Below X7.heap.size X7 w') := Lib.hid fun v hb => by
      have := touter_any b o c v (HR7.out.later hb) (by have := HL.out; omega)
      rw [HL.out] at this
      exact this.mono fun e w' ⟨g, cap, h1, _, h3, h4⟩ => ⟨g, cap, h1, h3, Kit.step hb h4⟩
    have HRO2 : Hid (∀ v g cap, Below X7.heap.size X7 v → Buf v g cap (0 :: b) → Calls Tryd.prog 19 #[.slice (some ⟨g, 0, none⟩) (L + 1) cap] v fun e w' => e = .returned (.agg BA) ∧ Below X7.heap.size X7 w') := Lib.hid fun v g cap hb hbuf => by
      have := rof_any (0 :: b) _ cap v hbuf.row (HD7.out.later hb) (by simp [HL.out]; omega)
      rw [show (0 :: b : List UInt8).length = L + 1 by simp [HL.out], show Da.sha (0 :: b) = Da.lf b from rfl, HBA.out] at this
      exact this.mono fun e w' h => ⟨h.1, Kit.step hb h.2⟩
    have HRL2 : Hid (∀ v, Below X7.heap.size X7 v → Calls Tryd.prog 22 #[.slice o L c] v fun e w' => e = .returned (.agg BA) ∧ Below X7.heap.size X7 w') := Lib.hid fun v hb => by
      have := rleaf_any b o c v (HR7.out.later hb) (HD7.out.later hb) (by have := HL.out; omega)
      rw [HL.out, HBA.out] at this
      exact this.mono fun e w' h => ⟨h.1, Kit.step hb h.2⟩
    have heq : ∀ W, (binOp .eql 31 (.agg NA) (.agg NA)).run Tryd.prog W = .ok (.bool true) W := fun W => by
      have := d32_eql (Da.nd l r) (Da.nd l r) (Da.nd_length l r) (Da.nd_length l r) W
      rw [HNA.out, beq_self_eq_true] at this
      exact this
    have heq2 : ∀ W, (binOp .eql 31 (.agg BA) (.agg BA)).run Tryd.prog W = .ok (.bool true) W := fun W => by
      have := d32_eql (Da.lf b) (Da.lf b) (Da.lf_length b) (Da.lf_length b) W
      rw [HBA.out, beq_self_eq_true] at this
      exact this
    have hgd := d32_guard
    obtain ⟨SB, hSB⟩ : ∃ S : ByteArray, ⟨b.toArray⟩ = S := ⟨_, rfl⟩
    obtain ⟨S0, hS0⟩ : ∃ S : ByteArray, ⟨(0 :: b).toArray⟩ = S := ⟨_, rfl⟩
    have hso : ∀ v, (Op.stringOp .add ⟨#[0]⟩ SB).run Tryd.prog v = .ok (.string S0) v := fun v => by
      rw [run_string_add_sum v ⟨#[0]⟩ SB (by rw [← hSB]; show (#[(0 : UInt8)]).size + b.toArray.size ≤ _; simp only [List.size_toArray, Array.size]; have := HL.out; simp; omega)]
      rw [← hSB, ← hS0]
      congr 2
    have HKB : Hid (∀ v, Below X7.heap.size X7 v → (convert 25 9 (.slice o L c)).run Tryd.prog v = .ok (.string SB) v) := Lib.hid fun v hb => by
      have := run_string (HR7.out.later hb) Tryd.underlying25 Tryd.underlying5 Tryd.underlying9 c
      rw [HL.out, hSB] at this
      exact this
    have HKO : Hid (∀ v g cap, Buf v g cap (0 :: b) → (convert 25 9 (.slice (some ⟨g, 0, none⟩) (L + 1) cap)).run Tryd.prog v = .ok (.string S0) v) := Lib.hid fun v g cap hbuf => by
      have := run_string hbuf.row Tryd.underlying25 Tryd.underlying5 Tryd.underlying9 cap
      rw [show (0 :: b : List UInt8).length = L + 1 by simp [HL.out], hS0] at this
      exact this
    obtain ⟨C7, hC7⟩ : ∃ C : World → Prop, (fun v => Below X7.heap.size X7 v) = C := ⟨_, rfl⟩
    have hCC : C7 { X7 with drawn := X7.drawn + 1 } := by rw [← hC7]; exact Kit.dn' X7 1
    have HCm : Hid (∀ v, C7 v → Below X7.heap.size X7 v) := Lib.hid fun v hv => by rw [← hC7] at hv; exact hv
    have HCi : Hid (∀ v, Below X7.heap.size X7 v → C7 v) := Lib.hid fun v hv => by rw [← hC7]; exact hv
    clear hC7 hSB hS0 TN TI
    rw [show ∀ (a : Act), a.put none undef = a from fun a => rfl]
    refine wp_region_held (S := C7) (by kernel_rfl) ?_
    refine takeHG (i := 0) (x := .agg LA) rfl rfl (by kernel_rfl) (by kernel_rfl) (by kernel_rfl) (fun _ _ _ h => h) (Or.inl ⟨by kernel_rfl, fun w hw => exec_row (t := 32) (fr := (0, 0)) rfl rfl (K7.out w (HCm.out w hw)) dg_under rfl HLT.out⟩) hCC ?_
    simp only [List.setIfInBounds_toArray, List.set_cons_zero, List.set_cons_succ]
    refine takeHG (i := 1) (x := .agg RA) rfl rfl (by kernel_rfl) (by kernel_rfl) (by kernel_rfl) (fun _ _ _ h => h) (Or.inl ⟨by kernel_rfl, fun w hw => exec_row (t := 32) (fr := (0, 0)) rfl rfl (K8.out w (HCm.out w hw)) dg_under rfl HRT.out⟩) hCC ?_
    simp only [List.setIfInBounds_toArray, List.set_cons_zero, List.set_cons_succ]
    refine takeHG (i := 3) (x := .agg NA) rfl rfl (by kernel_rfl) (by kernel_rfl) (by kernel_rfl) (fun _ _ _ h => h) (Or.inl ⟨by kernel_rfl, fun w hw => exec_row (t := 31) (fr := (0, 0)) rfl rfl (K9.out w (HCm.out w hw)) d32_under rfl HNS.out⟩) hCC ?_
    simp only [List.setIfInBounds_toArray, List.set_cons_zero, List.set_cons_succ]
    refine readyH (i := 2) (by kernel_rfl) rfl (by kernel_rfl) (fun K hK => ?_)
    go_simp
    refine (HTN.out _ (HCm.out _ hCC)).mono ?_
    rintro e Y1 ⟨rfl, hb⟩
    have hCC := HCi.out _ hb
    clear hb
    refine hK _ _ hCC ?_
    clear hK K HTN
    refine takeHG (i := 4) (x := .bool true) rfl rfl (by kernel_rfl) (by kernel_rfl) (by kernel_rfl) (fun _ _ _ h => h) (Or.inl ⟨by kernel_rfl, fun w hw => by (go_simp <;> with_reducible rfl)⟩) hCC ?_
    simp only [List.setIfInBounds_toArray, List.set_cons_zero, List.set_cons_succ]
    refine takeHG (i := 5) (x := .bool true) rfl rfl (by kernel_rfl) (by kernel_rfl) (by kernel_rfl) (fun _ _ _ h => h) (Or.inl ⟨by kernel_rfl, fun w hw => by (go_simp <;> with_reducible rfl)⟩) hCC ?_
    simp only [List.setIfInBounds_toArray, List.set_cons_zero, List.set_cons_succ]
    refine takeHG (i := 6) (x := .agg LA) rfl rfl (by kernel_rfl) (by kernel_rfl) (by kernel_rfl) (fun _ _ _ h => h) (Or.inl ⟨by kernel_rfl, fun w hw => exec_row (t := 32) (fr := (0, 0)) rfl rfl (K7.out w (HCm.out w hw)) dg_under rfl HLT.out⟩) hCC ?_
    simp only [List.setIfInBounds_toArray, List.set_cons_zero, List.set_cons_succ]
    refine takeHG (i := 7) (x := .agg RA) rfl rfl (by kernel_rfl) (by kernel_rfl) (by kernel_rfl) (fun _ _ _ h => h) (Or.inl ⟨by kernel_rfl, fun w hw => exec_row (t := 32) (fr := (0, 0)) rfl rfl (K8.out w (HCm.out w hw)) dg_under rfl HRT.out⟩) hCC ?_
    simp only [List.setIfInBounds_toArray, List.set_cons_zero, List.set_cons_succ]
    refine takeHG (i := 10) (x := .agg NA) rfl rfl (by kernel_rfl) (by kernel_rfl) (by kernel_rfl) (fun _ _ _ h => h) (Or.inl ⟨by kernel_rfl, fun w hw => exec_row (t := 31) (fr := (0, 0)) rfl rfl (K9.out w (HCm.out w hw)) d32_under rfl HNS.out⟩) hCC ?_
    simp only [List.setIfInBounds_toArray, List.set_cons_zero, List.set_cons_succ]
    refine readyH (i := 8) (by kernel_rfl) rfl (by kernel_rfl) (fun K hK => ?_)
    go_simp
    refine (HTI.out _ (HCm.out _ hCC)).mono ?_
    rintro e Y2 ⟨gx, capx, rfl, hbx, hb⟩
    have hCC := HCi.out _ hb
    have HIX := Lib.hid (HRI.out _ gx capx hb hbx)
    clear hb hbx
    refine hK _ _ hCC ?_
    clear hK K HTI
    refine readyH (i := 9) (by kernel_rfl) rfl (by kernel_rfl) (fun K hK => ?_)
    go_simp
    refine (HIX.out).mono ?_
    rintro e Y3 ⟨rfl, hb⟩
    have hCC := HCi.out _ hb
    clear hb
    refine hK _ _ hCC ?_
    clear hK K HIX
    refine takeHG (i := 11) (x := .bool true) rfl rfl (by kernel_rfl) (by kernel_rfl) (by kernel_rfl) (fun _ _ _ h => h) (Or.inl ⟨by kernel_rfl, fun w hw => by (go_simp <;> with_reducible rfl)⟩) hCC ?_
    simp only [List.setIfInBounds_toArray, List.set_cons_zero, List.set_cons_succ]
    refine takeHG (i := 12) (x := .bool true) rfl rfl (by kernel_rfl) (by kernel_rfl) (by kernel_rfl) (fun _ _ _ h => h) (Or.inl ⟨by kernel_rfl, fun w hw => by (go_simp <;> with_reducible rfl)⟩) hCC ?_
    simp only [List.setIfInBounds_toArray, List.set_cons_zero, List.set_cons_succ]
    refine takeHG (i := 13) (x := .bool true) rfl rfl (by kernel_rfl) (by kernel_rfl) (by kernel_rfl) (fun _ _ _ h => h) (Or.inl ⟨by kernel_rfl, fun w hw => by (go_simp <;> with_reducible rfl)⟩) hCC ?_
    simp only [List.setIfInBounds_toArray, List.set_cons_zero, List.set_cons_succ]
    refine takeHG (i := 14) (x := .slice o L c) rfl rfl (by kernel_rfl) (by kernel_rfl) (by kernel_rfl) (fun _ _ _ h => h) (Or.inl ⟨by kernel_rfl, fun w hw => by (go_simp <;> with_reducible rfl)⟩) hCC ?_
    simp only [List.setIfInBounds_toArray, List.set_cons_zero, List.set_cons_succ]
    refine takeHG (i := 17) (x := .slice o L c) rfl rfl (by kernel_rfl) (by kernel_rfl) (by kernel_rfl) (fun _ _ _ h => h) (Or.inl ⟨by kernel_rfl, fun w hw => by (go_simp <;> with_reducible rfl)⟩) hCC ?_
    simp only [List.setIfInBounds_toArray, List.set_cons_zero, List.set_cons_succ]
    refine readyH (i := 15) (by kernel_rfl) rfl (by kernel_rfl) (fun K hK => ?_)
    go_simp
    refine (HTO.out _ (HCm.out _ hCC)).mono ?_
    rintro e Y4 ⟨gy, capy, rfl, hbx, hb⟩
    have hCC := HCi.out _ hb
    have HIX := Lib.hid (HRO2.out _ gy capy hb hbx)
    clear hb hbx
    refine hK _ _ hCC ?_
    clear hK K
    refine readyH (i := 16) (by kernel_rfl) rfl (by kernel_rfl) (fun K hK => ?_)
    go_simp
    refine (HIX.out).mono ?_
    rintro e Y5 ⟨rfl, hb⟩
    have hCC := HCi.out _ hb
    clear hb
    refine hK _ _ hCC ?_
    clear hK K HIX
    refine readyH (i := 18) (by kernel_rfl) rfl (by kernel_rfl) (fun K hK => ?_)
    go_simp
    refine (HRL2.out _ (HCm.out _ hCC)).mono ?_
    rintro e Y6 ⟨rfl, hb⟩
    have hCC := HCi.out _ hb
    clear hb
    refine hK _ _ hCC ?_
    clear hK K HRL2
    refine takeHG (i := 19) (x := .bool true) rfl rfl (by kernel_rfl) (by kernel_rfl) (by kernel_rfl) (fun _ _ _ h => h) (Or.inl ⟨by kernel_rfl, fun w hw => by (go_simp <;> with_reducible rfl)⟩) hCC ?_
    simp only [List.setIfInBounds_toArray, List.set_cons_zero, List.set_cons_succ]
    refine takeHG (i := 20) (x := .bool true) rfl rfl (by kernel_rfl) (by kernel_rfl) (by kernel_rfl) (fun _ _ _ h => h) (Or.inl ⟨by kernel_rfl, fun w hw => by (go_simp <;> with_reducible rfl)⟩) hCC ?_
    simp only [List.setIfInBounds_toArray, List.set_cons_zero, List.set_cons_succ]
    refine takeHG (i := 21) (x := .bool true) rfl rfl (by kernel_rfl) (by kernel_rfl) (by kernel_rfl) (fun _ _ _ h => h) (Or.inl ⟨by kernel_rfl, fun w hw => by (go_simp <;> with_reducible rfl)⟩) hCC ?_
    simp only [List.setIfInBounds_toArray, List.set_cons_zero, List.set_cons_succ]
    refine takeHG (i := 22) (x := .slice o L c) rfl rfl (by kernel_rfl) (by kernel_rfl) (by kernel_rfl) (fun _ _ _ h => h) (Or.inl ⟨by kernel_rfl, fun w hw => by (go_simp <;> with_reducible rfl)⟩) hCC ?_
    simp only [List.setIfInBounds_toArray, List.set_cons_zero, List.set_cons_succ]
    refine takeHG (i := 25) (x := .slice o L c) rfl rfl (by kernel_rfl) (by kernel_rfl) (by kernel_rfl) (fun _ _ _ h => h) (Or.inl ⟨by kernel_rfl, fun w hw => by (go_simp <;> with_reducible rfl)⟩) hCC ?_
    simp only [List.setIfInBounds_toArray, List.set_cons_zero, List.set_cons_succ]
    refine takeHG (i := 26) (x := .string SB) rfl rfl (by kernel_rfl) (by kernel_rfl) (by kernel_rfl) (fun _ _ _ h => h) (Or.inl ⟨by kernel_rfl, fun w hw => St.exec_conv rfl (HKB.out w (HCm.out w hw))⟩) hCC ?_
    simp only [List.setIfInBounds_toArray, List.set_cons_zero, List.set_cons_succ]
    refine takeHG (i := 27) (x := .string S0) rfl rfl (by kernel_rfl) (by kernel_rfl) (by kernel_rfl) (fun _ _ _ h => h) (Or.inl ⟨by kernel_rfl, fun w hw => by (go_simp <;> with_reducible rfl)⟩) hCC ?_
    simp only [List.setIfInBounds_toArray, List.set_cons_zero, List.set_cons_succ]
    refine readyH (i := 23) (by kernel_rfl) rfl (by kernel_rfl) (fun K hK => ?_)
    go_simp
    refine (HTO.out _ (HCm.out _ hCC)).mono ?_
    rintro e Y7 ⟨gz, capz, rfl, hbx, hb⟩
    have hCC := HCi.out _ hb
    have kz := HKO.out _ gz capz hbx
    have HB8 := Lib.hid (Kit.step HB7.out hb)
    clear hb hbx
    refine hK _ _ hCC ?_
    clear hK K HTO
    refine readyH (i := 24) (by kernel_rfl) rfl (by kernel_rfl) (fun K hK => ?_)
    go_simp
    refine hK _ _ hCC ?_
    clear hK K kz
    refine takeHG (i := 28) (x := .bool true) rfl rfl (by kernel_rfl) (by kernel_rfl) (by kernel_rfl) (fun _ _ _ h => h) (Or.inl ⟨by kernel_rfl, fun w hw => by (go_simp <;> with_reducible rfl)⟩) hCC ?_
    simp only [List.setIfInBounds_toArray, List.set_cons_zero, List.set_cons_succ]
    refine takeHG (i := 29) (x := .bool true) rfl rfl (by kernel_rfl) (by kernel_rfl) (by kernel_rfl) (fun _ _ _ h => h) (Or.inl ⟨by kernel_rfl, fun w hw => by (go_simp <;> with_reducible rfl)⟩) hCC ?_
    simp only [List.setIfInBounds_toArray, List.set_cons_zero, List.set_cons_succ]
    refine takeHG (i := 30) (x := .bool true) rfl rfl (by kernel_rfl) (by kernel_rfl) (by kernel_rfl) (fun _ _ _ h => h) (Or.inl ⟨by kernel_rfl, fun w hw => by (go_simp <;> with_reducible rfl)⟩) hCC ?_
    simp only [List.setIfInBounds_toArray, List.set_cons_zero, List.set_cons_succ]
    refine wpAnyH_done (by kernel_rfl) ?_ _
    go_wp2_with fail
    go_ret
    exact ⟨rfl, HB8.out⟩
  · obtain ⟨p8, hp8⟩ : ∃ p, X.heap.size = p := ⟨_, rfl⟩
    go_simp
    rw [HX1.out]
    refine hK _ _ (by rw [← HX1.out]; exact HAB.out _ _ hC0) ?_
    clear hK K
    refine readyH (i := 2) (by kernel_rfl) rfl (by kernel_rfl) (fun K hK => ?_)
    obtain ⟨p7, hp7⟩ : ∃ p, X1.heap.size = p := ⟨_, rfl⟩
    go_simp
    rw [HX2.out]
    have hC2 : C X2 := by rw [← HX2.out, ← HX1.out]; exact HAB.out _ _ (HAB.out _ _ hC0)
    refine hK _ _ hC2 ?_
    clear hK K
    have hz1 : X2.heap[p8]? = some (.cells Z 32 (0, 0)) := by
      have h1 : Arr X1 X.heap.size 32 Z.toList := by rw [← HX1.out]; exact Arr.made _ _ _
      rw [← HX2.out, ← hp8]
      exact h1.alloc _
    have hz2 : X2.heap[p7]? = some (.cells Z 32 (0, 0)) := by rw [← HX2.out, ← hp7]; exact World.alloc_heap_new _ _
    have hne : p7 ≠ p8 := by
      have h1 : X1.heap.size = X.heap.size + 1 := by rw [← HX1.out, World.size_alloc]
      omega
    have hw1 : W3.heap.size ≤ p7 := by
      have h1 : X1.heap.size = X.heap.size + 1 := by rw [← HX1.out, World.size_alloc]
      have := HXS.out
      omega
    have hw2 : W3.heap.size ≤ p8 := by
      have h1 : X1.heap.size = X.heap.size + 1 := by rw [← HX1.out, World.size_alloc]
      have := HXS.out
      omega
    obtain ⟨X3, hX3⟩ : ∃ X3, X2.setRow p7 LA = X3 := ⟨_, rfl⟩
    obtain ⟨X4, hX4⟩ : ∃ X4, X3.setRow p8 RA = X4 := ⟨_, rfl⟩
    have hC3 : C X3 := by rw [← hX3]; exact HROW.out _ _ _ hC2 hw1
    have hC4 : C X4 := by rw [← hX4]; exact HROW.out _ _ _ hC3 hw2
    have hx7 : X2.heap[p7]? = some (.cells Z 32 (0, 0)) := by assumption
    have hx8 : X2.heap[p8]? = some (.cells Z 32 (0, 0)) := by assumption
    have hy8 : X3.heap[p8]? = some (.cells Z 32 (0, 0)) := by rw [← hX3, setRow_other X2 p7 p8 LA (by omega)]; exact hx8
    have hy7 : X3.heap[p7]? = some (.cells LA 32 (0, 0)) := by rw [← hX3]; exact setRow_heap _ _ _ _ _ _ hx7
    have hv7 : Arr X4 p7 32 (bytesV l) := by unfold Arr; rw [← hX4, setRow_other X3 p8 p7 RA hne, HLA.out]; exact hy7
    have hv8 : Arr X4 p8 32 (bytesV r) := by unfold Arr; rw [← hX4, HRA.out]; exact setRow_heap _ _ _ _ _ _ hy8
    have HF5 : Hid (C X4 ∧ Arr X4 p7 32 (bytesV l) ∧ Arr X4 p8 32 (bytesV r) ∧ W3.heap.size ≤ p7 ∧ W3.heap.size ≤ p8) := Lib.hid ⟨hC4, hv7, hv8, hw1, hw2⟩
    have HX7' := Lib.hid hx7
    have HY8 := Lib.hid hy8
    have HX3 := Lib.hid hX3
    have HX4 := Lib.hid hX4
    clear hz1 hz2 hne hw1 hw2 hx7 hx8 hy8 hy7 hv7 hv8 hX3 hX4 hp8 hp7
    refine readyH (i := 4) (by kernel_rfl) rfl (by kernel_rfl) (fun K hK => ?_)
    refine wp_store_row 32 (.tmp 7) (.tmp 15) rfl p7 LA rfl rfl 32 Z HX7'.out HLT.out HZL.out HLO.out ?_
    rw [HX3.out]
    refine hK _ _ hC3 ?_
    clear hK K
    refine readyH (i := 5) (by kernel_rfl) rfl (by kernel_rfl) (fun K hK => ?_)
    refine wp_store_row 32 (.tmp 8) (.tmp 16) rfl p8 RA rfl rfl 32 Z HY8.out HRT.out HZR.out HRO.out ?_
    rw [HX4.out]
    refine hK _ _ hC4 ?_
    clear hK K
    refine wpAnyH_done (by kernel_rfl) ?_ _
    clear hC0 hC2 hC3 hC4 HX1 HX2 HX3 HX4 HX7' HY8 HXS
    have hAA := HF5.out
    obtain ⟨hC4, h7a, h8a, h7w, h8w⟩ := hAA
    have HC4 := Lib.hid hC4
    have hbX := HCm.out X4 hC4
    have RN := rnode_any l r HLL.out HRL.out X4 (HD3.out.later hbX)
    rw [HLA.out, HRA.out, HNA.out] at RN
    have HRN := Lib.hid RN
    have HG1 := Lib.hid (HL1.out X4 hbX)
    have HG2 := Lib.hid (HL2.out X4 hbX)
    have HBX := Lib.hid hbX
    have H7 := Lib.hid h7a
    have H8 := Lib.hid h8a
    clear RN hbX hC4 h7a h8a HF5
    go_upto_region 6 with fail
    apply wp_region_lit
    refine wpList_load_row rfl 31 (.tmp 3) rfl g rfl 31 LA (0, 0) _ HG1.out d32_under rfl HLS.out ?_
    refine wpList_load_row rfl 31 (.tmp 4) rfl (g + 1) rfl 31 RA (0, 0) _ HG2.out d32_under rfl HRS.out ?_
    (refine wpList_plain rfl (fun K hK => ?_); go_simp)
    refine HRN.out.mono ?_
    rintro e X5 ⟨rfl, hb5⟩
    refine hK _ _ ?_
    clear hK K HRN
    obtain ⟨X6, hX6⟩ : ∃ X6, X5.alloc (.cells Y 31) = X6 := ⟨_, rfl⟩
    obtain ⟨p9, hp9⟩ : ∃ p, X5.heap.size = p := ⟨_, rfl⟩
    obtain ⟨X7, hX7⟩ : ∃ X7, X6.setRow p9 NA = X7 := ⟨_, rfl⟩
    have hA6 : Arr X6 p9 31 Y.toList := by rw [← hX6, ← hp9]; exact Arr.made _ _ _
    have hb6 : Below X5.heap.size X5 X6 := by rw [← hX6]; exact new12 _ _
    have hb7 : Below X5.heap.size X5 X7 := by rw [← hX7]; exact hb6.trans (below_row (Nat.le_of_eq hp9))
    have hb47 := Kit.step hb5 hb7
    have hA7 : Arr X7 p9 31 (bytesV (Da.nd l r)) := by rw [← hX7, ← HNA.out]; exact setRow_heap _ _ _ _ _ _ hA6
    have h77 := H7.out.later hb47 H7.out.lt
    have h87 := H8.out.later hb47 H8.out.lt
    have hb37 := Kit.step HBX.out hb47
    have HA6 : Hid (X6.heap[p9]? = some (.cells Y 31 (0, 0))) := Lib.hid hA6
    have HX6 := Lib.hid hX6
    have HX7 := Lib.hid hX7
    have HP9 := Lib.hid hp9
    have HB7 := Lib.hid (Kit.step HB3.out hb37)
    have K7 : Hid (∀ v, Below X7.heap.size X7 v → v.heap[p7]? = some (.cells LA 32 (0, 0))) := Lib.hid fun v hb => by rw [← HLA.out]; exact h77.later hb h77.lt
    have K8 : Hid (∀ v, Below X7.heap.size X7 v → v.heap[p8]? = some (.cells RA 32 (0, 0))) := Lib.hid fun v hb => by rw [← HRA.out]; exact h87.later hb h87.lt
    have K9 : Hid (∀ v, Below X7.heap.size X7 v → v.heap[p9]? = some (.cells NA 31 (0, 0))) := Lib.hid fun v hb => by rw [← HNA.out]; exact hA7.later hb hA7.lt
    have HR7 := Lib.hid (HR3.out.later hb37)
    have HV7 := Lib.hid (HV3.out.later hb37)
    have HD7 := Lib.hid (HD3.out.later hb37)
    clear hX6 hp9 hX7 hA6 hb6 hb7 hb47 hA7 h77 h87 hb37 hb5
    (refine wpList_plain rfl (fun K hK => ?_); go_simp; refine hK _ _ ?_; clear hK K)
    rw [HX6.out, HP9.out]
    refine wpList_store_row rfl 31 (.tmp 9) (.tmp 19) rfl p9 NA rfl rfl 31 Y HA6.out HNS.out HYN.out HNO.out ?_
    rw [HX7.out]
    clear HX6 HX7 HP9 HA6 HG1 HG2 H7 H8 HBX HC4 HCm HCi HAB HROW
    go_upto_region 7 with fail
    have TN := tnode_any l r HLL.out HRL.out
    rw [HLA.out, HRA.out, HNA.out] at TN
    have TI := tinner_any l r HLL.out HRL.out
    rw [HLA.out, HRA.out] at TI
    have HTN : Hid (∀ v, Below X7.heap.size X7 v → Calls Tryd.prog 18 #[.agg LA, .agg RA] v fun e w' => e = .returned (.agg NA) ∧ Below X7.heap.size X7 w') := Lib.hid fun v hb => (TN v (HV7.out.later hb)).mono fun e w' h => ⟨h.1, Kit.step hb h.2⟩
    have HTI : Hid (∀ v, Below X7.heap.size X7 v → Calls Tryd.prog 20 #[.agg LA, .agg RA] v fun e w' => ∃ g cap, e = .returned (.slice (some ⟨g, 0, none⟩) 65 cap) ∧ Buf w' g cap (1 :: (l ++ r)) ∧ Below X7.heap.size X7 w') := Lib.hid fun v hb => (TI v).mono fun e w' ⟨g, cap, h1, _, h3, h4⟩ => ⟨g, cap, h1, h3, Kit.step hb h4⟩
    have HRI : Hid (∀ v g cap, Below X7.heap.size X7 v → Buf v g cap (1 :: (l ++ r)) → Calls Tryd.prog 19 #[.slice (some ⟨g, 0, none⟩) 65 cap] v fun e w' => e = .returned (.agg NA) ∧ Below X7.heap.size X7 w') := Lib.hid fun v g cap hb hbuf => by
      have := rof_any (1 :: (l ++ r)) _ cap v hbuf.row (HD7.out.later hb) (by simp [HLL.out, HRL.out])
      rw [show (1 :: (l ++ r) : List UInt8).length = 65 by simp [HLL.out, HRL.out], show Da.sha (1 :: (l ++ r)) = Da.nd l r from rfl, HNA.out] at this
      exact this.mono fun e w' h => ⟨h.1, Kit.step hb h.2⟩
    have HTO : Hid (∀ v, Below X7.heap.size X7 v → Calls Tryd.prog 21 #[.slice o L c] v fun e w' => ∃ g cap, e = .returned (.slice (some ⟨g, 0, none⟩) (L + 1) cap) ∧ Buf w' g cap (0 :: b) ∧ Below X7.heap.size X7 w') := Lib.hid fun v hb => by
      have := touter_any b o c v (HR7.out.later hb) (by have := HL.out; omega)
      rw [HL.out] at this
      exact this.mono fun e w' ⟨g, cap, h1, _, h3, h4⟩ => ⟨g, cap, h1, h3, Kit.step hb h4⟩
    have HRO2 : Hid (∀ v g cap, Below X7.heap.size X7 v → Buf v g cap (0 :: b) → Calls Tryd.prog 19 #[.slice (some ⟨g, 0, none⟩) (L + 1) cap] v fun e w' => e = .returned (.agg BA) ∧ Below X7.heap.size X7 w') := Lib.hid fun v g cap hb hbuf => by
      have := rof_any (0 :: b) _ cap v hbuf.row (HD7.out.later hb) (by simp [HL.out]; omega)
      rw [show (0 :: b : List UInt8).length = L + 1 by simp [HL.out], show Da.sha (0 :: b) = Da.lf b from rfl, HBA.out] at this
      exact this.mono fun e w' h => ⟨h.1, Kit.step hb h.2⟩
    have HRL2 : Hid (∀ v, Below X7.heap.size X7 v → Calls Tryd.prog 22 #[.slice o L c] v fun e w' => e = .returned (.agg BA) ∧ Below X7.heap.size X7 w') := Lib.hid fun v hb => by
      have := rleaf_any b o c v (HR7.out.later hb) (HD7.out.later hb) (by have := HL.out; omega)
      rw [HL.out, HBA.out] at this
      exact this.mono fun e w' h => ⟨h.1, Kit.step hb h.2⟩
    have heq : ∀ W, (binOp .eql 31 (.agg NA) (.agg NA)).run Tryd.prog W = .ok (.bool true) W := fun W => by
      have := d32_eql (Da.nd l r) (Da.nd l r) (Da.nd_length l r) (Da.nd_length l r) W
      rw [HNA.out, beq_self_eq_true] at this
      exact this
    have heq2 : ∀ W, (binOp .eql 31 (.agg BA) (.agg BA)).run Tryd.prog W = .ok (.bool true) W := fun W => by
      have := d32_eql (Da.lf b) (Da.lf b) (Da.lf_length b) (Da.lf_length b) W
      rw [HBA.out, beq_self_eq_true] at this
      exact this
    have hgd := d32_guard
    obtain ⟨SB, hSB⟩ : ∃ S : ByteArray, ⟨b.toArray⟩ = S := ⟨_, rfl⟩
    obtain ⟨S0, hS0⟩ : ∃ S : ByteArray, ⟨(0 :: b).toArray⟩ = S := ⟨_, rfl⟩
    have hso : ∀ v, (Op.stringOp .add ⟨#[0]⟩ SB).run Tryd.prog v = .ok (.string S0) v := fun v => by
      rw [run_string_add_sum v ⟨#[0]⟩ SB (by rw [← hSB]; show (#[(0 : UInt8)]).size + b.toArray.size ≤ _; simp only [List.size_toArray, Array.size]; have := HL.out; simp; omega)]
      rw [← hSB, ← hS0]
      congr 2
    have HKB : Hid (∀ v, Below X7.heap.size X7 v → (convert 25 9 (.slice o L c)).run Tryd.prog v = .ok (.string SB) v) := Lib.hid fun v hb => by
      have := run_string (HR7.out.later hb) Tryd.underlying25 Tryd.underlying5 Tryd.underlying9 c
      rw [HL.out, hSB] at this
      exact this
    have HKO : Hid (∀ v g cap, Buf v g cap (0 :: b) → (convert 25 9 (.slice (some ⟨g, 0, none⟩) (L + 1) cap)).run Tryd.prog v = .ok (.string S0) v) := Lib.hid fun v g cap hbuf => by
      have := run_string hbuf.row Tryd.underlying25 Tryd.underlying5 Tryd.underlying9 cap
      rw [show (0 :: b : List UInt8).length = L + 1 by simp [HL.out], hS0] at this
      exact this
    obtain ⟨C7, hC7⟩ : ∃ C : World → Prop, (fun v => Below X7.heap.size X7 v) = C := ⟨_, rfl⟩
    have hCC : C7 { X7 with drawn := X7.drawn + 1 } := by rw [← hC7]; exact Kit.dn' X7 1
    have HCm : Hid (∀ v, C7 v → Below X7.heap.size X7 v) := Lib.hid fun v hv => by rw [← hC7] at hv; exact hv
    have HCi : Hid (∀ v, Below X7.heap.size X7 v → C7 v) := Lib.hid fun v hv => by rw [← hC7]; exact hv
    clear hC7 hSB hS0 TN TI
    rw [show ∀ (a : Act), a.put none undef = a from fun a => rfl]
    refine wp_region_held (S := C7) (by kernel_rfl) ?_
    refine takeHG (i := 0) (x := .agg LA) rfl rfl (by kernel_rfl) (by kernel_rfl) (by kernel_rfl) (fun _ _ _ h => h) (Or.inl ⟨by kernel_rfl, fun w hw => exec_row (t := 32) (fr := (0, 0)) rfl rfl (K7.out w (HCm.out w hw)) dg_under rfl HLT.out⟩) hCC ?_
    simp only [List.setIfInBounds_toArray, List.set_cons_zero, List.set_cons_succ]
    refine takeHG (i := 1) (x := .agg RA) rfl rfl (by kernel_rfl) (by kernel_rfl) (by kernel_rfl) (fun _ _ _ h => h) (Or.inl ⟨by kernel_rfl, fun w hw => exec_row (t := 32) (fr := (0, 0)) rfl rfl (K8.out w (HCm.out w hw)) dg_under rfl HRT.out⟩) hCC ?_
    simp only [List.setIfInBounds_toArray, List.set_cons_zero, List.set_cons_succ]
    refine takeHG (i := 3) (x := .agg NA) rfl rfl (by kernel_rfl) (by kernel_rfl) (by kernel_rfl) (fun _ _ _ h => h) (Or.inl ⟨by kernel_rfl, fun w hw => exec_row (t := 31) (fr := (0, 0)) rfl rfl (K9.out w (HCm.out w hw)) d32_under rfl HNS.out⟩) hCC ?_
    simp only [List.setIfInBounds_toArray, List.set_cons_zero, List.set_cons_succ]
    refine readyH (i := 2) (by kernel_rfl) rfl (by kernel_rfl) (fun K hK => ?_)
    go_simp
    refine (HTN.out _ (HCm.out _ hCC)).mono ?_
    rintro e Y1 ⟨rfl, hb⟩
    have hCC := HCi.out _ hb
    clear hb
    refine hK _ _ hCC ?_
    clear hK K HTN
    refine takeHG (i := 4) (x := .bool true) rfl rfl (by kernel_rfl) (by kernel_rfl) (by kernel_rfl) (fun _ _ _ h => h) (Or.inl ⟨by kernel_rfl, fun w hw => by (go_simp <;> with_reducible rfl)⟩) hCC ?_
    simp only [List.setIfInBounds_toArray, List.set_cons_zero, List.set_cons_succ]
    refine takeHG (i := 5) (x := .bool true) rfl rfl (by kernel_rfl) (by kernel_rfl) (by kernel_rfl) (fun _ _ _ h => h) (Or.inl ⟨by kernel_rfl, fun w hw => by (go_simp <;> with_reducible rfl)⟩) hCC ?_
    simp only [List.setIfInBounds_toArray, List.set_cons_zero, List.set_cons_succ]
    refine takeHG (i := 6) (x := .agg LA) rfl rfl (by kernel_rfl) (by kernel_rfl) (by kernel_rfl) (fun _ _ _ h => h) (Or.inl ⟨by kernel_rfl, fun w hw => exec_row (t := 32) (fr := (0, 0)) rfl rfl (K7.out w (HCm.out w hw)) dg_under rfl HLT.out⟩) hCC ?_
    simp only [List.setIfInBounds_toArray, List.set_cons_zero, List.set_cons_succ]
    refine takeHG (i := 7) (x := .agg RA) rfl rfl (by kernel_rfl) (by kernel_rfl) (by kernel_rfl) (fun _ _ _ h => h) (Or.inl ⟨by kernel_rfl, fun w hw => exec_row (t := 32) (fr := (0, 0)) rfl rfl (K8.out w (HCm.out w hw)) dg_under rfl HRT.out⟩) hCC ?_
    simp only [List.setIfInBounds_toArray, List.set_cons_zero, List.set_cons_succ]
    refine takeHG (i := 10) (x := .agg NA) rfl rfl (by kernel_rfl) (by kernel_rfl) (by kernel_rfl) (fun _ _ _ h => h) (Or.inl ⟨by kernel_rfl, fun w hw => exec_row (t := 31) (fr := (0, 0)) rfl rfl (K9.out w (HCm.out w hw)) d32_under rfl HNS.out⟩) hCC ?_
    simp only [List.setIfInBounds_toArray, List.set_cons_zero, List.set_cons_succ]
    refine readyH (i := 8) (by kernel_rfl) rfl (by kernel_rfl) (fun K hK => ?_)
    go_simp
    refine (HTI.out _ (HCm.out _ hCC)).mono ?_
    rintro e Y2 ⟨gx, capx, rfl, hbx, hb⟩
    have hCC := HCi.out _ hb
    have HIX := Lib.hid (HRI.out _ gx capx hb hbx)
    clear hb hbx
    refine hK _ _ hCC ?_
    clear hK K HTI
    refine readyH (i := 9) (by kernel_rfl) rfl (by kernel_rfl) (fun K hK => ?_)
    go_simp
    refine (HIX.out).mono ?_
    rintro e Y3 ⟨rfl, hb⟩
    have hCC := HCi.out _ hb
    clear hb
    refine hK _ _ hCC ?_
    clear hK K HIX
    refine takeHG (i := 11) (x := .bool true) rfl rfl (by kernel_rfl) (by kernel_rfl) (by kernel_rfl) (fun _ _ _ h => h) (Or.inl ⟨by kernel_rfl, fun w hw => by (go_simp <;> with_reducible rfl)⟩) hCC ?_
    simp only [List.setIfInBounds_toArray, List.set_cons_zero, List.set_cons_succ]
    refine takeHG (i := 12) (x := .bool true) rfl rfl (by kernel_rfl) (by kernel_rfl) (by kernel_rfl) (fun _ _ _ h => h) (Or.inl ⟨by kernel_rfl, fun w hw => by (go_simp <;> with_reducible rfl)⟩) hCC ?_
    simp only [List.setIfInBounds_toArray, List.set_cons_zero, List.set_cons_succ]
    refine takeHG (i := 13) (x := .bool true) rfl rfl (by kernel_rfl) (by kernel_rfl) (by kernel_rfl) (fun _ _ _ h => h) (Or.inl ⟨by kernel_rfl, fun w hw => by (go_simp <;> with_reducible rfl)⟩) hCC ?_
    simp only [List.setIfInBounds_toArray, List.set_cons_zero, List.set_cons_succ]
    refine takeHG (i := 14) (x := .slice o L c) rfl rfl (by kernel_rfl) (by kernel_rfl) (by kernel_rfl) (fun _ _ _ h => h) (Or.inl ⟨by kernel_rfl, fun w hw => by (go_simp <;> with_reducible rfl)⟩) hCC ?_
    simp only [List.setIfInBounds_toArray, List.set_cons_zero, List.set_cons_succ]
    refine takeHG (i := 17) (x := .slice o L c) rfl rfl (by kernel_rfl) (by kernel_rfl) (by kernel_rfl) (fun _ _ _ h => h) (Or.inl ⟨by kernel_rfl, fun w hw => by (go_simp <;> with_reducible rfl)⟩) hCC ?_
    simp only [List.setIfInBounds_toArray, List.set_cons_zero, List.set_cons_succ]
    refine readyH (i := 15) (by kernel_rfl) rfl (by kernel_rfl) (fun K hK => ?_)
    go_simp
    refine (HTO.out _ (HCm.out _ hCC)).mono ?_
    rintro e Y4 ⟨gy, capy, rfl, hbx, hb⟩
    have hCC := HCi.out _ hb
    have HIX := Lib.hid (HRO2.out _ gy capy hb hbx)
    clear hb hbx
    refine hK _ _ hCC ?_
    clear hK K
    refine readyH (i := 16) (by kernel_rfl) rfl (by kernel_rfl) (fun K hK => ?_)
    go_simp
    refine (HIX.out).mono ?_
    rintro e Y5 ⟨rfl, hb⟩
    have hCC := HCi.out _ hb
    clear hb
    refine hK _ _ hCC ?_
    clear hK K HIX
    refine readyH (i := 18) (by kernel_rfl) rfl (by kernel_rfl) (fun K hK => ?_)
    go_simp
    refine (HRL2.out _ (HCm.out _ hCC)).mono ?_
    rintro e Y6 ⟨rfl, hb⟩
    have hCC := HCi.out _ hb
    clear hb
    refine hK _ _ hCC ?_
    clear hK K HRL2
    refine takeHG (i := 19) (x := .bool true) rfl rfl (by kernel_rfl) (by kernel_rfl) (by kernel_rfl) (fun _ _ _ h => h) (Or.inl ⟨by kernel_rfl, fun w hw => by (go_simp <;> with_reducible rfl)⟩) hCC ?_
    simp only [List.setIfInBounds_toArray, List.set_cons_zero, List.set_cons_succ]
    refine takeHG (i := 20) (x := .bool true) rfl rfl (by kernel_rfl) (by kernel_rfl) (by kernel_rfl) (fun _ _ _ h => h) (Or.inl ⟨by kernel_rfl, fun w hw => by (go_simp <;> with_reducible rfl)⟩) hCC ?_
    simp only [List.setIfInBounds_toArray, List.set_cons_zero, List.set_cons_succ]
    refine takeHG (i := 21) (x := .bool true) rfl rfl (by kernel_rfl) (by kernel_rfl) (by kernel_rfl) (fun _ _ _ h => h) (Or.inl ⟨by kernel_rfl, fun w hw => by (go_simp <;> with_reducible rfl)⟩) hCC ?_
    simp only [List.setIfInBounds_toArray, List.set_cons_zero, List.set_cons_succ]
    refine takeHG (i := 22) (x := .slice o L c) rfl rfl (by kernel_rfl) (by kernel_rfl) (by kernel_rfl) (fun _ _ _ h => h) (Or.inl ⟨by kernel_rfl, fun w hw => by (go_simp <;> with_reducible rfl)⟩) hCC ?_
    simp only [List.setIfInBounds_toArray, List.set_cons_zero, List.set_cons_succ]
    refine takeHG (i := 25) (x := .slice o L c) rfl rfl (by kernel_rfl) (by kernel_rfl) (by kernel_rfl) (fun _ _ _ h => h) (Or.inl ⟨by kernel_rfl, fun w hw => by (go_simp <;> with_reducible rfl)⟩) hCC ?_
    simp only [List.setIfInBounds_toArray, List.set_cons_zero, List.set_cons_succ]
    refine takeHG (i := 26) (x := .string SB) rfl rfl (by kernel_rfl) (by kernel_rfl) (by kernel_rfl) (fun _ _ _ h => h) (Or.inl ⟨by kernel_rfl, fun w hw => St.exec_conv rfl (HKB.out w (HCm.out w hw))⟩) hCC ?_
    simp only [List.setIfInBounds_toArray, List.set_cons_zero, List.set_cons_succ]
    refine takeHG (i := 27) (x := .string S0) rfl rfl (by kernel_rfl) (by kernel_rfl) (by kernel_rfl) (fun _ _ _ h => h) (Or.inl ⟨by kernel_rfl, fun w hw => by (go_simp <;> with_reducible rfl)⟩) hCC ?_
    simp only [List.setIfInBounds_toArray, List.set_cons_zero, List.set_cons_succ]
    refine readyH (i := 23) (by kernel_rfl) rfl (by kernel_rfl) (fun K hK => ?_)
    go_simp
    refine (HTO.out _ (HCm.out _ hCC)).mono ?_
    rintro e Y7 ⟨gz, capz, rfl, hbx, hb⟩
    have hCC := HCi.out _ hb
    have kz := HKO.out _ gz capz hbx
    have HB8 := Lib.hid (Kit.step HB7.out hb)
    clear hb hbx
    refine hK _ _ hCC ?_
    clear hK K HTO
    refine readyH (i := 24) (by kernel_rfl) rfl (by kernel_rfl) (fun K hK => ?_)
    go_simp
    refine hK _ _ hCC ?_
    clear hK K kz
    refine takeHG (i := 28) (x := .bool true) rfl rfl (by kernel_rfl) (by kernel_rfl) (by kernel_rfl) (fun _ _ _ h => h) (Or.inl ⟨by kernel_rfl, fun w hw => by (go_simp <;> with_reducible rfl)⟩) hCC ?_
    simp only [List.setIfInBounds_toArray, List.set_cons_zero, List.set_cons_succ]
    refine takeHG (i := 29) (x := .bool true) rfl rfl (by kernel_rfl) (by kernel_rfl) (by kernel_rfl) (fun _ _ _ h => h) (Or.inl ⟨by kernel_rfl, fun w hw => by (go_simp <;> with_reducible rfl)⟩) hCC ?_
    simp only [List.setIfInBounds_toArray, List.set_cons_zero, List.set_cons_succ]
    refine takeHG (i := 30) (x := .bool true) rfl rfl (by kernel_rfl) (by kernel_rfl) (by kernel_rfl) (fun _ _ _ h => h) (Or.inl ⟨by kernel_rfl, fun w hw => by (go_simp <;> with_reducible rfl)⟩) hCC ?_
    simp only [List.setIfInBounds_toArray, List.set_cons_zero, List.set_cons_succ]
    refine wpAnyH_done (by kernel_rfl) ?_ _
    go_wp2_with fail
    go_ret
    exact ⟨rfl, HB8.out⟩
theorem tn12_any (l r : List UInt8) (hl : l.length = 32) (hr : r.length = 32) (b : List UInt8) (o : Option Addr) (c : Nat) (w : World) (hR : RowIs w o (bytesV b) c) (hV : Cds w) (hD : Rds w) :
    Calls Tryd.prog 4 #[.agg (bytesV l).toArray, .agg (bytesV r).toArray, .slice o b.length c] w fun e w' => e = .returned (.bool true) ∧ Below w.heap.size w w' := tn12_of _ _ rfl dg_zero rfl d32_zero l r hl hr b o c w hR hV hD
end Go.Proofs.YtmfbdelhkdimaaaDoor
