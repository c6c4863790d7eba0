/- The law's clash of layer 14; GrowthOne, walked. GrowthOne, walked. -/
import Derived.Test.YtfccpfmgkpcnoaaDoorSx14
import Derived.Test.YtfccpfmgkpcnoaaDoorOc14
import Derived.Test.YtfccpfmgkpcnoaaDoorIns
namespace Go.Proofs.YtfccpfmgkpcnoaaDoor
open Go.RowKit
attribute [local go_sem] Oper.semAt_some
set_option linter.unusedVariables false
set_option linter.unusedSimpArgs false
theorem AskGAt.block {W W' : World} {g : Nat} {m n : Int} {old now : List UInt8} {pv : Value} (h : AskGAt W g m n old now pv) (hk : W'.heap[g]? = W.heap[g]?) : AskGAt W' g m n old now pv := by
  have hc : ∀ j, W'.cell? ⟨g, j, none⟩ = W.cell? ⟨g, j, none⟩ := fun j => World.cell?_of_block hk
  have hlt : g < W'.heap.size := by
    have h1 := Array.getElem?_eq_getElem h.lt
    rw [← hk] at h1
    exact (Array.getElem?_eq_some_iff.1 h1).1
  exact ⟨hlt, by rw [hc]; exact h.cm, by rw [hc]; exact h.cn, fun j v hv => by rw [hc]; exact h.ro j v hv, fun j v hv => by rw [hc]; exact h.rn j v hv, by rw [hc]; exact h.cp⟩
theorem Da.gcl_cons (x y d : List UInt8) (ps : List (List UInt8)) : Da.gcl x y (d :: ps) = if (1 :: (x ++ d) : List UInt8) ≠ 1 :: (y ++ d) ∧ Da.nd x d = Da.nd y d then true else Da.gcl (Da.nd x d) (Da.nd y d) ps := rfl
theorem Da.gcl_nil (x y : List UInt8) : Da.gcl x y [] = false := rfl
theorem str_beq14 (a b : List UInt8) : ((⟨a.toArray⟩ : ByteArray).toList == (⟨b.toArray⟩ : ByteArray).toList) = (a == b) := by
  rw [ByteArray.toList_eq, ByteArray.toList_eq]
theorem Rf.Mut.setRow {M : Nat → Prop} (X : World) (k : Nat) (F : Array Value) (hk : M k) : Rf.Mut M X (X.setRow k F) := ⟨rfl, rfl, rfl, by simp [World.setRow], fun i _ hm => setRow_other X k i F (fun e => hm (e ▸ hk))⟩
theorem shaof14 (b : List UInt8) (g c L : Nat) (hL : b.length = L) (V : World) (hb : Buf V g c b) (hV : Cds V) (hl : L ≤ 900000) : ∃ V', V.alloc (.cells #[.slice (some ⟨g, 0, none⟩) L c] 27) = V' ∧ Below V.heap.size V V' ∧
    Calls Tryd.prog 48 #[.slice (some ⟨V.heap.size, 0, none⟩) 1 1] V' fun e w' => e = .returned (.agg (bytesV (Da.sha b)).toArray) ∧ Below V'.heap.size V' w' := by
  have hba := new12 V (.cells #[.slice (some ⟨g, 0, none⟩) L c] 27)
  have hone := one_part hb.row
  rw [hL] at hone
  have SO := sof_any [b] _ 1 _ hone (hV.later hba) (by simp; omega) (by simp)
  rw [show ([b] : List (List UInt8)).flatten = b by simp, List.length_singleton] at SO
  exact ⟨_, rfl, hba, SO⟩
def ClA (m P : Nat) (w1 : World) (v7 v8 : Value) (wr : World) : Prop := ∃ (n' s t : Nat) (z : List Int), v7 = .int .i64 (n' : Int) ∧ n' ≤ 512 ∧ Da.wyl m n' = some t ∧ s + t = P ∧ z.length = s ∧ wr.ownsRow w1.heap.size 3 1 v8 s (intsV z) ∧ Below w1.heap.size w1 wr
def ClB (px py : Nat) (ps : List (List UInt8)) (w1 : World) (iv : Value) (wr : World) : Prop := ∃ (i : Nat) (x y : List UInt8), iv = .int .i64 (i : Int) ∧ i ≤ ps.length ∧ x.length = 32 ∧ y.length = 32 ∧ Da.gcl x y (ps.drop i) = true ∧
  wr.heap[px]? = some (.cells (bytesV x).toArray 41 (0, 0)) ∧ wr.heap[py]? = some (.cells (bytesV y).toArray 41 (0, 0)) ∧ Rf.Mut (fun k => k = px ∨ k = py) w1 wr
set_option maxRecDepth 100000 in
set_option maxHeartbeats 8000000 in
theorem cl14_of (Z : Array Value) (hZ : Z = (bytesV (List.replicate 32 0)).toArray) (hzs : ∀ w, Sem.run Tryd.prog (zeroValue 41) w = .ok (.agg Z) w)
    (m n : Nat) (old now oth : List UInt8) (op : Option Addr) (cp : Nat) (ps : List (List UInt8)) (ho : old.length = 32) (hw : now.length = 32) (hy : oth.length = 32) (hm : 1 ≤ m) (hn : n ≤ 512) (hmn : m ≤ n) (h40 : ps.length ≤ 40) (hwy : Da.wyl m n = some ps.length) (hgc : Da.gcl old oth ps = true) (w : World) (hP : DgIs w op ps cp) (hV : Cds w) :
    Calls Tryd.prog 29 #[.agg (askG (m : Int) (n : Int) old now (.slice op ps.length cp)).toArray, .agg (bytesV oth).toArray] w fun e w' => e = .returned (.bool true) ∧ Below w.heap.size w w' := by
  obtain ⟨g, hg⟩ : ∃ g, w.heap.size = g := ⟨_, rfl⟩
  obtain ⟨AL, hAL⟩ : ∃ AL, askG (m : Int) (n : Int) old now (.slice op ps.length cp) = AL := ⟨_, rfl⟩
  obtain ⟨W1, hW1⟩ : ∃ W1, w.alloc (.cells AL.toArray 54) = W1 := ⟨_, rfl⟩
  have hs1 : W1.heap.size = g + 1 := by rw [← hW1, World.size_alloc, hg]
  obtain ⟨YA, hYA⟩ : ∃ R, (bytesV oth).toArray = R := ⟨_, rfl⟩
  obtain ⟨OA, hOA⟩ : ∃ R, (bytesV old).toArray = R := ⟨_, rfl⟩
  obtain ⟨W2, hW2⟩ : ∃ W2, W1.alloc (.cells YA 40) = W2 := ⟨_, rfl⟩
  have hb1 : Below w.heap.size w W1 := by rw [← hW1]; exact new12 _ _
  have hb2 : Below W1.heap.size W1 W2 := by rw [← hW2]; exact new12 _ _
  have hs2 : W2.heap.size = g + 2 := by rw [← hW2, World.size_alloc, hs1]
  have hk1 : AskGAt W2 g (m : Int) (n : Int) old now (.slice op ps.length cp) := (AskGAt.of (T := 54) ho hw (by rw [hAL, ← hW1, ← hg]; exact Arr.made _ _ _)).later hb2
  have hy2 : W2.heap[g + 1]? = some (.cells YA 40 (0, 0)) := by rw [← hW2, ← hs1]; exact World.alloc_heap_new W1 _
  obtain ⟨P, hPe⟩ : ∃ P, ps.length = P := ⟨_, rfl⟩
  rw [hPe] at hk1 hwy h40
  have hlP := hP.le
  have hcP := hP.cap
  rw [hPe] at hlP
  unfold maxLen at hcP
  have HLO : Hid (∀ v, AskGAt v g (m : Int) (n : Int) old now (.slice op P cp) → (Instr.loadAt 40 (.pointer (some ⟨g, 2, none⟩))).run Tryd.prog v = .ok (.agg OA) v) := Lib.hid fun v hv => by
    have := dg_load_run d32_under dgI_doc ho hv.ro
    rw [hOA] at this
    exact this
  have HYS : Hid ((Tryd.prog.info? 40).map (·.size) = some YA.size) := Lib.hid (by rw [d32_info, ← hYA]; simp [hy])
  have HYD : Hid ((Tryd.prog.info? 41).map (·.size) = some YA.size) := Lib.hid (by rw [dg_info, ← hYA]; simp [hy])
  have HYO : Hid (YA.all (·.oneCell') = true) := Lib.hid (by rw [← hYA]; exact all_oneCell_toArray (bytesV_one _))
  have HYZ : Hid (Z.size = YA.size) := Lib.hid (by rw [hZ, ← hYA]; simp [hy])
  have HOD : Hid ((Tryd.prog.info? 41).map (·.size) = some OA.size) := Lib.hid (by rw [dg_info, ← hOA]; simp [ho])
  have HOO : Hid (OA.all (·.oneCell') = true) := Lib.hid (by rw [← hOA]; exact all_oneCell_toArray (bytesV_one _))
  have HOZ : Hid (Z.size = OA.size) := Lib.hid (by rw [hZ, ← hOA]; simp [ho])
  obtain ⟨AA, hAA⟩ : ∃ AA, AL.toArray = AA := ⟨_, rfl⟩
  rw [hPe] at hAL ⊢
  rw [hAL, hAA]
  rw [hAA] at hW1
  rw [hYA]
  have HG := Lib.hid hg
  have HS1 := Lib.hid hs1
  have HW1 := Lib.hid hW1
  have HW2 := Lib.hid hW2
  have HB2 := Lib.hid (Kit.step hb1 hb2)
  have HS2 := Lib.hid hs2
  have HK1 := Lib.hid hk1
  have HY2 := Lib.hid hy2
  have HPE := Lib.hid hPe
  have HLN := Lib.hid (show old.length = 32 ∧ now.length = 32 ∧ oth.length = 32 ∧ (bytesV old).toArray = OA ∧ (bytesV oth).toArray = YA from ⟨ho, hw, hy, hOA, hYA⟩)
  have HWY := Lib.hid hwy
  have HGC := Lib.hid hgc
  have HP := Lib.hid hP
  have HV := Lib.hid hV
  have HZ := Lib.hid hZ
  have hd1 : decide ((m : Int) < 1) = false := decide_eq_false (by omega)
  have hd2 : decide ((n : Int) > 512) = false := decide_eq_false (by omega)
  have hd3 : decide (512 < (n : Int)) = false := decide_eq_false (by omega)
  have hd4 : decide (m < 1) = false := decide_eq_false (by omega)
  have hd5 : decide (512 < n) = false := decide_eq_false (by omega)
  have hcm := hk1.cm
  have hcn := hk1.cn
  clear hg hW1 hb1 hk1 hPe ho hw hy hP hV hZ hAA hAL AL hs1 hW2 hb2 hs2 hy2 hwy hgc hYA hOA
  go_enter Tryd.func29, Tryd.ntmps29
  go_upto_region 1 with fail
  rw [HW1.out, HW2.out, HG.out]
  go_upto_region 3 with fail
  clear hcm hcn
  -- STOP1
  refine Code.wp_mono (Q := fun e b' v => e = .normal ∧ ∃ px py, px ≠ py ∧ g + 2 ≤ px ∧ g + 2 ≤ py ∧ v.heap[px]? = some (.cells OA 41 (0, 0)) ∧ v.heap[py]? = some (.cells YA 41 (0, 0)) ∧ Below W2.heap.size W2 v ∧ b' = { tmps := #[.agg AA, .agg YA, .pointer (some ⟨g, 0, none⟩), .pointer (some ⟨g + 1, 0, none⟩), .bool false, .pointer (some ⟨px, 0, none⟩), .pointer (some ⟨py, 0, none⟩), undef, undef, undef, undef, undef, undef, undef, .pointer (some ⟨g, 0, none⟩), .int .i64 (m : Int), .bool false, .bool false, .pointer (some ⟨g, 1, none⟩), .int .i64 (n : Int), .bool false, .bool false, .pointer (some ⟨g, 2, none⟩), .agg OA, .agg YA, undef, undef, undef, undef, undef, undef, undef, undef, undef, undef, undef, undef, undef, undef, undef, undef, undef, undef, undef, undef, undef, undef, undef, undef, undef, undef, undef, undef, undef, undef, undef, undef, undef, undef, undef, undef, undef, undef, undef, undef, undef, undef, undef, undef, undef, undef, undef, undef, undef, undef, undef, undef, undef, undef, undef, undef, undef, undef, undef, undef], defers := [] }) ?rest ?reg
  case reg =>
    obtain ⟨C, hC⟩ : ∃ C : World → Prop, (fun v : World => AskGAt v g (m : Int) (n : Int) old now (.slice op P cp) ∧ v.heap[g + 1]? = some (.cells YA 40 (0, 0))) = C := ⟨_, rfl⟩
    have HKA : Hid (∀ v, C v → AskGAt v g (m : Int) (n : Int) old now (.slice op P cp) ∧ v.heap[g + 1]? = some (.cells YA 40 (0, 0))) := Lib.hid fun v hv => by rw [← hC] at hv; exact hv
    have HC1 : Hid (∀ v, Below W2.heap.size W2 v → C v) := Lib.hid fun v hv => by rw [← hC]; exact ⟨HK1.out.later hv, by rw [hv.block (g + 1) (Array.getElem?_eq_some_iff.1 HY2.out).1]; exact HY2.out⟩
    have HCS : Hid (∀ (v : World) (k : Nat) (F : Array Value), g + 2 ≤ k → C v → C (v.setRow k F)) := Lib.hid fun v k F hk hv => by
      rw [← hC] at hv ⊢
      exact ⟨hv.1.block (setRow_other v k g F (by omega)), by rw [setRow_other v k (g + 1) F (by omega)]; exact hv.2⟩
    have hC0 : C W2.drew := HC1.out _ (Kit.dn' W2 1)
    have HBL : Hid (Below W2.heap.size W2 W2.drew) := Lib.hid (Kit.dn' W2 1)
    clear hC
    refine Rgt.region C (fun _ => false) (by kernel_rfl) ?_
    refine Rgt.take (i := 0) (x := .pointer (some ⟨g, 2, none⟩)) rfl rfl (by kernel_rfl) (by kernel_rfl) (by kernel_rfl) (by kernel_rfl) (fun _ _ _ h => (by cases h.1)) (Or.inl ⟨by kernel_rfl, fun w hw => by (go_simp <;> with_reducible rfl)⟩) hC0 ?_
    go_simp
    refine Rgt.take (i := 1) (x := .agg OA) rfl rfl (by kernel_rfl) (by kernel_rfl) (by kernel_rfl) (by kernel_rfl) (fun _ _ _ h => (by cases h.1)) (Or.inl ⟨by kernel_rfl, fun w hw => exec_mid14 rfl rfl (HLO.out w (HKA.out w hw).1)⟩) hC0 ?_
    go_simp
    refine Rgt.take (i := 2) (x := .agg YA) rfl rfl (by kernel_rfl) (by kernel_rfl) (by kernel_rfl) (by kernel_rfl) (fun _ _ _ h => (by cases h.1)) (Or.inl ⟨by kernel_rfl, fun w hw => exec_row (t := 40) (fr := (0, 0)) rfl rfl (HKA.out w hw).2 d32_under rfl HYS.out⟩) hC0 ?_
    go_simp
    obtain ⟨V0, hV⟩ : ∃ V, W2.drew = V := ⟨_, rfl⟩
    rw [hV] at HBL ⊢
    clear hV hC0
    refine Rgt.ready2 (i := 3) (j := 4) (by kernel_rfl) rfl rfl (by kernel_rfl) (by kernel_rfl) (fun K hK => ?_) (fun K hK => ?_)
    · go_simp
      obtain ⟨px, hpa⟩ : ∃ p, V0.heap.size = p := ⟨_, rfl⟩
      obtain ⟨V1, hV1⟩ : ∃ V, V0.alloc (.cells Z 41) = V := ⟨_, rfl⟩
      have hb1 : Below V0.heap.size V0 V1 := by rw [← hV1]; exact new12 _ _
      have hs1 : V1.heap.size = px + 1 := by rw [← hV1, World.size_alloc, hpa]
      have hx1 : V1.heap[px]? = some (.cells Z 41 (0, 0)) := by rw [← hV1, ← hpa]; exact World.alloc_heap_new V0 _
      rw [hV1, hpa]
      have hC1 := HC1.out _ (Kit.step HBL.out hb1)
      refine hK _ _ hC1 ?_
      clear hK K
      refine Rgt.ready (i := 4) (by kernel_rfl) rfl (by kernel_rfl) (fun K hK => ?_)
      go_simp
      obtain ⟨py, hpb⟩ : ∃ p, V1.heap.size = p := ⟨_, rfl⟩
      obtain ⟨V2, hV2⟩ : ∃ V, V1.alloc (.cells Z 41) = V := ⟨_, rfl⟩
      have hb2 : Below V1.heap.size V1 V2 := by rw [← hV2]; exact new12 _ _
      have hx2 : V2.heap[py]? = some (.cells Z 41 (0, 0)) := by rw [← hV2, ← hpb]; exact World.alloc_heap_new V1 _
      have hx3 : V2.heap[px]? = some (.cells Z 41 (0, 0)) := by rw [hb2.block px (by omega)]; exact hx1
      have hab : px + 1 = py := by omega
      rw [hV2, hab]
      have hB2 := Kit.step HBL.out (Kit.step hb1 hb2)
      have hC2 := HC1.out _ hB2
      refine hK _ _ hC2 ?_
      clear hK K
      have hsz0 := HBL.out.size
      have hgs := HS2.out
      have hne : px ≠ py := by omega
      have hgx : g + 2 ≤ px := by omega
      have hgy : g + 2 ≤ py := by omega
      have hzx : V2.heap[px]? = some (.cells Z 41 (0, 0)) := by first | exact hx2 | exact hx3
      have hzy : V2.heap[py]? = some (.cells Z 41 (0, 0)) := by first | exact hx2 | exact hx3
      have hC3 : C (V2.setRow px OA) := HCS.out _ px OA hgx hC2
      have hzy3 : (V2.setRow px OA).heap[py]? = some (.cells Z 41 (0, 0)) := by rw [setRow_other V2 px py OA (Ne.symm hne)]; exact hzy
      have hC4 : C ((V2.setRow px OA).setRow py YA) := HCS.out _ py YA hgy hC3
      have HZX := Lib.hid hzx
      have HZY3 := Lib.hid hzy3
      have HFIN := Lib.hid (show px ≠ py ∧ g + 2 ≤ px ∧ g + 2 ≤ py ∧ ((V2.setRow px OA).setRow py YA).heap[px]? = some (.cells OA 41 (0, 0)) ∧ ((V2.setRow px OA).setRow py YA).heap[py]? = some (.cells YA 41 (0, 0)) ∧ Below W2.heap.size W2 ((V2.setRow px OA).setRow py YA) from
        ⟨hne, hgx, hgy, by rw [setRow_other _ py px YA hne]; exact setRow_heap _ _ _ _ _ _ hzx, setRow_heap _ _ _ _ _ _ hzy3, (hB2.trans (below_row (by omega))).trans (below_row (by omega))⟩)
      clear hpa hV1 hb1 hs1 hx1 hC1 hpb hab hV2 hb2 hx2 hx3 hB2 hsz0 hgs hne hgx hgy hzx hzy hzy3
      refine Rgt.ready (i := 5) (by kernel_rfl) rfl (by kernel_rfl) (fun K hK => ?_)
      refine wp_store_row 41 (.tmp 5) (.tmp 23) rfl px OA rfl rfl 41 Z HZX.out HOD.out HOZ.out HOO.out (hK _ _ hC3 ?_)
      clear hK K
      refine Rgt.ready (i := 6) (by kernel_rfl) rfl (by kernel_rfl) (fun K hK => ?_)
      refine wp_store_row 41 (.tmp 6) (.tmp 24) rfl py YA rfl rfl 41 Z HZY3.out HYD.out HYZ.out HYO.out (hK _ _ hC4 ?_)
      clear hK K
      refine Rgt.done (by kernel_rfl) ?_ _
      obtain ⟨q1, q2, q3, q4, q5, q6⟩ := HFIN.out
      exact ⟨rfl, px, py, q1, q2, q3, q4, q5, q6, rfl⟩
    · go_simp
      obtain ⟨py, hpa⟩ : ∃ p, V0.heap.size = p := ⟨_, rfl⟩
      obtain ⟨V1, hV1⟩ : ∃ V, V0.alloc (.cells Z 41) = V := ⟨_, rfl⟩
      have hb1 : Below V0.heap.size V0 V1 := by rw [← hV1]; exact new12 _ _
      have hs1 : V1.heap.size = py + 1 := by rw [← hV1, World.size_alloc, hpa]
      have hx1 : V1.heap[py]? = some (.cells Z 41 (0, 0)) := by rw [← hV1, ← hpa]; exact World.alloc_heap_new V0 _
      rw [hV1, hpa]
      have hC1 := HC1.out _ (Kit.step HBL.out hb1)
      refine hK _ _ hC1 ?_
      clear hK K
      refine Rgt.ready (i := 3) (by kernel_rfl) rfl (by kernel_rfl) (fun K hK => ?_)
      go_simp
      obtain ⟨px, hpb⟩ : ∃ p, V1.heap.size = p := ⟨_, rfl⟩
      obtain ⟨V2, hV2⟩ : ∃ V, V1.alloc (.cells Z 41) = V := ⟨_, rfl⟩
      have hb2 : Below V1.heap.size V1 V2 := by rw [← hV2]; exact new12 _ _
      have hx2 : V2.heap[px]? = some (.cells Z 41 (0, 0)) := by rw [← hV2, ← hpb]; exact World.alloc_heap_new V1 _
      have hx3 : V2.heap[py]? = some (.cells Z 41 (0, 0)) := by rw [hb2.block py (by omega)]; exact hx1
      have hab : py + 1 = px := by omega
      rw [hV2, hab]
      have hB2 := Kit.step HBL.out (Kit.step hb1 hb2)
      have hC2 := HC1.out _ hB2
      refine hK _ _ hC2 ?_
      clear hK K
      have hsz0 := HBL.out.size
      have hgs := HS2.out
      have hne : px ≠ py := by omega
      have hgx : g + 2 ≤ px := by omega
      have hgy : g + 2 ≤ py := by omega
      have hzx : V2.heap[px]? = some (.cells Z 41 (0, 0)) := by first | exact hx2 | exact hx3
      have hzy : V2.heap[py]? = some (.cells Z 41 (0, 0)) := by first | exact hx2 | exact hx3
      have hC3 : C (V2.setRow px OA) := HCS.out _ px OA hgx hC2
      have hzy3 : (V2.setRow px OA).heap[py]? = some (.cells Z 41 (0, 0)) := by rw [setRow_other V2 px py OA (Ne.symm hne)]; exact hzy
      have hC4 : C ((V2.setRow px OA).setRow py YA) := HCS.out _ py YA hgy hC3
      have HZX := Lib.hid hzx
      have HZY3 := Lib.hid hzy3
      have HFIN := Lib.hid (show px ≠ py ∧ g + 2 ≤ px ∧ g + 2 ≤ py ∧ ((V2.setRow px OA).setRow py YA).heap[px]? = some (.cells OA 41 (0, 0)) ∧ ((V2.setRow px OA).setRow py YA).heap[py]? = some (.cells YA 41 (0, 0)) ∧ Below W2.heap.size W2 ((V2.setRow px OA).setRow py YA) from
        ⟨hne, hgx, hgy, by rw [setRow_other _ py px YA hne]; exact setRow_heap _ _ _ _ _ _ hzx, setRow_heap _ _ _ _ _ _ hzy3, (hB2.trans (below_row (by omega))).trans (below_row (by omega))⟩)
      clear hpa hV1 hb1 hs1 hx1 hC1 hpb hab hV2 hb2 hx2 hx3 hB2 hsz0 hgs hne hgx hgy hzx hzy hzy3
      refine Rgt.ready (i := 5) (by kernel_rfl) rfl (by kernel_rfl) (fun K hK => ?_)
      refine wp_store_row 41 (.tmp 5) (.tmp 23) rfl px OA rfl rfl 41 Z HZX.out HOD.out HOZ.out HOO.out (hK _ _ hC3 ?_)
      clear hK K
      refine Rgt.ready (i := 6) (by kernel_rfl) rfl (by kernel_rfl) (fun K hK => ?_)
      refine wp_store_row 41 (.tmp 6) (.tmp 24) rfl py YA rfl rfl 41 Z HZY3.out HYD.out HYZ.out HYO.out (hK _ _ hC4 ?_)
      clear hK K
      refine Rgt.done (by kernel_rfl) ?_ _
      obtain ⟨q1, q2, q3, q4, q5, q6⟩ := HFIN.out
      exact ⟨rfl, px, py, q1, q2, q3, q4, q5, q6, rfl⟩
  rintro e b' X0 ⟨rfl, px, py, hpp, hgx, hgy, hx, hyv, hbx, rfl⟩
  dsimp only
  -- STOP2
  have HB0 := Lib.hid (Kit.step HB2.out hbx)
  have HKX := Lib.hid (HK1.out.later hbx)
  have HPX := Lib.hid (show px ≠ py ∧ g + 2 ≤ px ∧ g + 2 ≤ py from ⟨hpp, hgx, hgy⟩)
  have HXX := Lib.hid (And.intro hx hyv)
  have hcm := HKX.out.cm
  have hcn := HKX.out.cn
  obtain ⟨X1, hX1⟩ : ∃ X1, X0.alloc (.cells #[] 3) = X1 := ⟨_, rfl⟩
  have hb01 : Below X0.heap.size X0 X1 := by rw [← hX1]; exact new12 _ _
  have HI : Hid (ClA m P X0 (.int .i64 (n : Int)) (.slice (some ⟨X0.heap.size, 0, none⟩) 0 0) X1) := Lib.hid ⟨n, 0, P, [], rfl, hn, HWY.out, by omega, rfl, own_empty (by rw [← hX1]; exact World.alloc_heap_new X0 _) (Nat.le_refl _), hb01⟩
  have HX1 := Lib.hid hX1
  clear hpp hgx hgy hx hyv hbx hX1 hb01 hd1 hd2 hd3 hd4 hd5
  go_upto_region 6 with fail
  rw [HX1.out]
  have HKX1 := Lib.hid (HKX.out.later (show Below X0.heap.size X0 X1 by rw [← HX1.out]; exact new12 _ _))
  clear hcm hcn
  have hcm := HKX1.out.cm
  go_wp2_with fail
  clear hcm
  go_loopw [7, 8] (fun v7 v8 wr => ClA m P X0 v7 v8 wr) (fun v7 _ _ => (intOf v7).toNat)
  case atStart => exact HI.out
  case round =>
    obtain ⟨n', s, t, z, rfl, hn', hwy, hst, hzl, hown, hB⟩ := hrel
    by_cases hlt : m < n'
    · have hd1 : decide ((m : Int) < (n' : Int)) = true := decide_eq_true (by omega)
      have hd2 : decide (m < n') = true := decide_eq_true hlt
      obtain ⟨s1, s2, _⟩ := Da.spl_lt (n := n') (by omega)
      have hk : m ≤ Da.spl n' := by
        by_cases hk : m ≤ Da.spl n'
        · exact hk
        · rw [Da.wyl_right hlt (by omega)] at hwy; cases hwy
      rw [Da.wyl_left hm hlt hk] at hwy
      obtain ⟨t', ht', hte⟩ : ∃ t', Da.wyl m (Da.spl n') = some t' ∧ t = t' + 1 := by
        cases hw2 : Da.wyl m (Da.spl n') with
        | none => rw [hw2] at hwy; cases hwy
        | some t' => rw [hw2] at hwy; cases hwy; exact ⟨t', rfl, rfl⟩
      have SP := fun W => rsplit_any n' (by omega) (by omega) W
      obtain ⟨k, hke⟩ : ∃ k, Da.spl n' = k := ⟨_, rfl⟩
      rw [hke] at s1 s2 hk ht' SP
      have hd3 : decide ((m : Int) > (k : Int)) = false := decide_eq_false (by omega)
      have hd4 : decide ((k : Int) < (m : Int)) = false := decide_eq_false (by omega)
      have hd5 : decide (k < m) = false := decide_eq_false (by omega)
      have HT := Lib.hid (show Da.wyl m k = some t' ∧ s + 1 + t' = P ∧ z.length = s from ⟨ht', by omega, hzl⟩)
      have HSP := Lib.hid SP
      have HOWN := Lib.hid hown
      have HB := Lib.hid hB
      have hs40 : s ≤ 40 := by omega
      clear hwy ht' hte hke SP hown hB hst hzl HI HX1
      go_wp2_with fail
      refine (HSP.out wr).mono ?_
      rintro e wr2 ⟨rfl, rfl⟩
      rename World => wr
      obtain ⟨Y, hY⟩ : ∃ Y, wr.alloc (.cells #[.int .i64 (n' : Int)] 3) = Y := ⟨_, rfl⟩
      have hbY : Below wr.heap.size wr Y := by rw [← hY]; exact new12 _ _
      have hcY : Y.cell? ⟨wr.heap.size, 0, none⟩ = some (.int .i64 (n' : Int)) := by
        rw [← hY]; unfold World.cell?; rw [World.alloc_heap_new]; rfl
      have hoY : Y.ownsRow X0.heap.size 3 1 u8 s (intsV z) := by rw [← hY]; exact World.ownsRow.alloc HOWN.out _
      have HBY := Lib.hid (Kit.step HB.out hbY)
      have HCY := Lib.hid hcY
      have HOY := Lib.hid hoY
      have HY := Lib.hid hY
      clear hY hbY hcY hoY
      go_upto_region 11 with fail
      apply wp_region_lit
      (refine wpList_plain rfl (fun K hK => ?_); go_simp; refine hK _ _ ?_; clear hK K)
      (refine wpList_plain rfl (fun K hK => ?_); go_simp; refine hK _ _ ?_; clear hK K)
      (refine wpList_plain rfl (fun K hK => ?_); go_simp; refine hK _ _ ?_; clear hK K)
      rw [HY.out]
      refine append_int rfl (.tmp 39) (.tmp 41) rfl X0.heap.size u8 s z rfl HOY.out _ (n' : Int) rfl HCY.out (by omega) HBY.out.size ?_
      intro v' w2 hv hgr
      have HV2 := Lib.hid hv
      have HB2' := Lib.hid (own_belowI HBY.out HOY.out hgr)
      clear hv hgr
      go_wp2_with fail
      refine (HSP.out w2).mono ?_
      rintro e wr2 ⟨rfl, rfl⟩
      rename World => w2
      go_wp2_with fail
      go_roundw
      case rel => exact ⟨k, s + 1, t', z ++ [(n' : Int)], rfl, by omega, HT.out.1, HT.out.2.1, by rw [List.length_append, HT.out.2.2]; rfl, HV2.out, HB2'.out⟩
      case measure => simp [intOf]; omega
    · have hd1 : decide ((m : Int) < (n' : Int)) = false := decide_eq_false (by omega)
      have hd2 : decide (m < n') = false := decide_eq_false hlt
      rw [Da.wyl_all (by omega)] at hwy
      have ht0 : t = 0 := by cases hwy; rfl
      have hsP : s = P := by omega
      subst hsP
      obtain ⟨o8, c8, rfl⟩ : ∃ o c, u8 = Value.slice o s c := by
        rcases hown.2 with ⟨rfl, h0⟩ | ⟨_, cap, _, rfl, _⟩
        · exact ⟨_, _, by rw [h0]⟩
        · exact ⟨_, _, rfl⟩
      have hcv : ∀ k, k < X0.heap.size → wr.heap[k]? = X0.heap[k]? := fun k hk => hB.block k hk
      have HKW := Lib.hid (HKX.out.later hB)
      have HBW := Lib.hid (Kit.step HB0.out hB)
      have hx0 := HXX.out.1
      have hy0 := HXX.out.2
      have HIB : Hid (ClB px py ps wr (.int .i64 0) wr) := Lib.hid ⟨0, old, oth, rfl, Nat.zero_le _, HLN.out.1, HLN.out.2.2.1, HGC.out, by rw [hB.block px (Array.getElem?_eq_some_iff.1 hx0).1, HLN.out.2.2.2.1]; exact hx0, by rw [hB.block py (Array.getElem?_eq_some_iff.1 hy0).1, HLN.out.2.2.2.2]; exact hy0, Rf.Mut.refl _ _⟩
      clear hwy ht0 hown hB hst hzl HI HX1 hcv hx0 hy0
      go_wp2_with fail
      -- STOP3
      rename World => X5
      go_loopw [45] (fun iv wr => ClB px py ps X5 iv wr) (fun iv _ => s - (intOf iv).toNat)
      case atStart => exact HIB.out
      case round =>
        obtain ⟨i, x, y, rfl, hi, hxl, hyl, hgc, hx, hyv, hM⟩ := hrel
        rw [HPE.out] at hi
        by_cases hlt2 : i < s
        rotate_left
        · exfalso
          rw [List.drop_of_length_le (by rw [HPE.out]; omega)] at hgc
          rw [Da.gcl_nil] at hgc
          cases hgc
        obtain ⟨hpp, hgx, hgy⟩ := HPX.out
        have hbw : Below w.heap.size w wr := HBW.out.trans (hM.below (fun k hk e => by have := HG.out; omega) HBW.out.size)
        have hgs : g < X5.heap.size := by have := HKW.out.lt; exact this
        have hkw := HKW.out.block (hM.same g hgs (by omega))
        have hPw := HP.out.later hbw
        have hVw := HV.out.later hbw
        obtain ⟨b1, off1, rfl, hlt1, hrng⟩ := hPw.at_ i (by rw [HPE.out]; exact hlt2)
        have hdl : (bi ps i).length = 32 := HP.out.all.at_ (by rw [HPE.out]; exact hlt2)
        have hdr : ps.drop i = bi ps i :: ps.drop (i + 1) := by
          rw [List.drop_eq_getElem_cons (by rw [HPE.out]; exact hlt2)]
          congr 1
          unfold bi
          rw [List.getD_eq_getElem?_getD, List.getElem?_eq_getElem (by rw [HPE.out]; exact hlt2)]
          rfl
        rw [hdr] at hgc
        obtain ⟨d, hde⟩ : ∃ d, bi ps i = d := ⟨_, rfl⟩
        rw [hde] at hgc hdl hrng
        rw [Da.gcl_cons] at hgc
        obtain ⟨DA, hDA⟩ : ∃ R, (bytesV d).toArray = R := ⟨_, rfl⟩
        obtain ⟨XA, hXA⟩ : ∃ R, (bytesV x).toArray = R := ⟨_, rfl⟩
        obtain ⟨YB, hYB⟩ : ∃ R, (bytesV y).toArray = R := ⟨_, rfl⟩
        rw [hXA] at hx
        rw [hYB] at hyv
        have hndx := Da.nd_length x d
        have hndy := Da.nd_length y d
        obtain ⟨NX, hNX⟩ : ∃ R, (bytesV (Da.nd x d)).toArray = R := ⟨_, rfl⟩
        obtain ⟨NY, hNY⟩ : ∃ R, (bytesV (Da.nd y d)).toArray = R := ⟨_, rfl⟩
        have HDM : Hid ((Tryd.prog.info? 40).map (·.size) = some (bytesV d).length) := Lib.hid (by rw [d32_info]; simp [hdl])
        have HDS : Hid ((Tryd.prog.info? 41).map (·.size) = some DA.size) := Lib.hid (by rw [dg_info, ← hDA]; simp [hdl])
        have HDO : Hid (DA.all (·.oneCell') = true) := Lib.hid (by rw [← hDA]; exact all_oneCell_toArray (bytesV_one _))
        have HDZ : Hid (Z.size = DA.size) := Lib.hid (by rw [HZ.out, ← hDA]; simp [hdl])
        have HXS : Hid ((Tryd.prog.info? 41).map (·.size) = some XA.size) := Lib.hid (by rw [dg_info, ← hXA]; simp [hxl])
        have HYBS : Hid ((Tryd.prog.info? 41).map (·.size) = some YB.size) := Lib.hid (by rw [dg_info, ← hYB]; simp [hyl])
        have HNXS : Hid ((Tryd.prog.info? 41).map (·.size) = some NX.size) := Lib.hid (by rw [dg_info, ← hNX]; simp [hndx])
        have HNXO : Hid (NX.all (·.oneCell') = true) := Lib.hid (by rw [← hNX]; exact all_oneCell_toArray (bytesV_one _))
        have HNXZ : Hid (XA.size = NX.size) := Lib.hid (by rw [← hXA, ← hNX]; simp [hndx, hxl])
        have HNYS : Hid ((Tryd.prog.info? 41).map (·.size) = some NY.size) := Lib.hid (by rw [dg_info, ← hNY]; simp [hndy])
        have HNYO : Hid (NY.all (·.oneCell') = true) := Lib.hid (by rw [← hNY]; exact all_oneCell_toArray (bytesV_one _))
        have HNYZ : Hid (YB.size = NY.size) := Lib.hid (by rw [← hYB, ← hNY]; simp [hndy, hyl])
        obtain ⟨p, hp⟩ : ∃ p, wr.heap.size = p := ⟨_, rfl⟩
        obtain ⟨Y1, hY1⟩ : ∃ Y1, wr.alloc (.cells Z 41) = Y1 := ⟨_, rfl⟩
        obtain ⟨Y2, hY2⟩ : ∃ Y2, Y1.setRow p DA = Y2 := ⟨_, rfl⟩
        have hA1 : Y1.heap[p]? = some (.cells Z 41 (0, 0)) := by rw [← hY1, ← hp]; exact World.alloc_heap_new wr _
        have hA2 : Y2.heap[p]? = some (.cells DA 41 (0, 0)) := by rw [← hY2]; exact setRow_heap _ _ _ _ _ _ hA1
        have hb12 : Below wr.heap.size wr Y2 := by rw [← hY2, ← hY1]; exact (new12 _ _).trans (below_row (Nat.le_of_eq hp))
        have hxp := (Array.getElem?_eq_some_iff.1 hx).1
        have hyp := (Array.getElem?_eq_some_iff.1 hyv).1
        have HX2 := Lib.hid (show Y2.heap[px]? = some (.cells XA 41 (0, 0)) by rw [hb12.block px hxp]; exact hx)
        have HY2' := Lib.hid (show Y2.heap[py]? = some (.cells YB 41 (0, 0)) by rw [hb12.block py hyp]; exact hyv)
        have HPLT := Lib.hid (show px < p ∧ py < p from ⟨by omega, by omega⟩)
        have HM := Lib.hid hM
        have HBWW := Lib.hid hbw
        have HB12 := Lib.hid hb12
        have HDW := Lib.hid hVw
        have HA1 := Lib.hid hA1
        have HA2 := Lib.hid hA2
        have HY1E := Lib.hid hY1
        have HY2E := Lib.hid hY2
        have HPP := Lib.hid hp
        have HRNG := Lib.hid hrng
        have HDA := Lib.hid hDA
        have HGC2 := Lib.hid hgc
        have HLL := Lib.hid (show x.length = 32 ∧ y.length = 32 ∧ d.length = 32 from ⟨hxl, hyl, hdl⟩)
        have HNN := Lib.hid (show (bytesV x).toArray = XA ∧ (bytesV y).toArray = YB ∧ (bytesV (Da.nd x d)).toArray = NX ∧ (bytesV (Da.nd y d)).toArray = NY from ⟨hXA, hYB, hNX, hNY⟩)
        have hcpp := hkw.cp
        have h0i : (0 : Int) ≤ (i : Int) := by omega
        have hd1 : decide ((i : Int) ≥ (s : Int)) = false := decide_eq_false (by omega)
        have hd2 : decide (s ≤ i) = false := decide_eq_false (by omega)
        clear hpp hgx hgy hbw hgs hPw hVw hlt1 hdr hde hgc hdl hrng hDA hXA hYB hx hyv hndx hndy hNX hNY hp hY1 hY2 hA1 hA2 hb12 hxp hyp hM hkw hxl hyl HIB
        go_upto_region 17 with fail
        apply wp_region_lit
        (refine wpList_plain rfl (fun K hK => ?_); go_simp; refine hK _ _ ?_; clear hK K)
        (refine wpList_plain rfl (fun K hK => ?_); go_simp; refine hK _ _ ?_; clear hK K)
        (refine wpList_plain rfl (fun K hK => ?_); go_simp; refine hK _ _ ?_; clear hK K)
        (refine wpList_plain rfl (fun K hK => ?_); go_simp; refine hK _ _ ?_; clear hK K)
        refine wpList_load_mid rfl 40 (.tmp 56) rfl b1 (off1 + i * 32) rfl (bytesV d) _ HRNG.out d32_under rfl HDM.out ?_
        rw [HDA.out]
        (refine wpList_plain rfl (fun K hK => ?_); go_simp; refine hK _ _ ?_; clear hK K)
        rw [HY1E.out, HPP.out]
        refine wpList_store_row rfl 41 (.tmp 11) (.tmp 57) rfl p DA rfl rfl 41 Z HA1.out HDS.out HDZ.out HDO.out ?_
        rw [HY2E.out]
        clear hcpp
        obtain ⟨C, hC⟩ : ∃ C : World → Prop, (fun v => Below Y2.heap.size Y2 v) = C := ⟨_, rfl⟩
        have HC1 : Hid (∀ v, Below Y2.heap.size Y2 v → C v) := Lib.hid fun v hv => by rw [← hC]; exact hv
        have HC2 : Hid (∀ v, C v → Below Y2.heap.size Y2 v) := Lib.hid fun v hv => by rw [← hC] at hv; exact hv
        have hC0 : C Y2.drew := HC1.out _ (Kit.dn' Y2 1)
        clear hC
        have HF : Hid (∀ v, C v → v.heap[px]? = some (.cells XA 41 (0, 0)) ∧ v.heap[py]? = some (.cells YB 41 (0, 0)) ∧ v.heap[p]? = some (.cells DA 41 (0, 0))) := Lib.hid fun v hv => by
          have hb := HC2.out v hv
          exact ⟨by rw [hb.block px (Array.getElem?_eq_some_iff.1 HX2.out).1]; exact HX2.out, by rw [hb.block py (Array.getElem?_eq_some_iff.1 HY2'.out).1]; exact HY2'.out, by rw [hb.block p (Array.getElem?_eq_some_iff.1 HA2.out).1]; exact HA2.out⟩
        have TI1 := fun W => tinner_any x d HLL.out.1 HLL.out.2.2 W
        have TI2 := fun W => tinner_any y d HLL.out.2.1 HLL.out.2.2 W
        rw [HNN.out.1, HDA.out] at TI1
        rw [HNN.out.2.1, HDA.out] at TI2
        have HT1 := Lib.hid TI1
        have HT2 := Lib.hid TI2
        clear TI1 TI2
        go_upto_region 18 with fail
        refine Rgt.region C (fun _ => false) (by kernel_rfl) ?_
        refine Rgt.take (i := 0) (x := .agg XA) rfl rfl (by kernel_rfl) (by kernel_rfl) (by kernel_rfl) (by kernel_rfl) (fun _ _ _ h => h) (Or.inl ⟨by kernel_rfl, fun w hw => exec_row (t := 41) (fr := (0, 0)) rfl rfl ((HF.out w hw).1) dg_under rfl HXS.out⟩) hC0 ?_
        go_simp
        refine Rgt.take (i := 1) (x := .agg DA) rfl rfl (by kernel_rfl) (by kernel_rfl) (by kernel_rfl) (by kernel_rfl) (fun _ _ _ h => h) (Or.inl ⟨by kernel_rfl, fun w hw => exec_row (t := 41) (fr := (0, 0)) rfl rfl ((HF.out w hw).2.2) dg_under rfl HDS.out⟩) hC0 ?_
        go_simp
        refine Rgt.take (i := 3) (x := .agg YB) rfl rfl (by kernel_rfl) (by kernel_rfl) (by kernel_rfl) (by kernel_rfl) (fun _ _ _ h => h) (Or.inl ⟨by kernel_rfl, fun w hw => exec_row (t := 41) (fr := (0, 0)) rfl rfl ((HF.out w hw).2.1) dg_under rfl HYBS.out⟩) hC0 ?_
        go_simp
        refine Rgt.take (i := 4) (x := .agg DA) rfl rfl (by kernel_rfl) (by kernel_rfl) (by kernel_rfl) (by kernel_rfl) (fun _ _ _ h => h) (Or.inl ⟨by kernel_rfl, fun w hw => exec_row (t := 41) (fr := (0, 0)) rfl rfl ((HF.out w hw).2.2) dg_under rfl HDS.out⟩) hC0 ?_
        go_simp
        refine Rgt.ready (i := 2) (by kernel_rfl) rfl (by kernel_rfl) (fun K hK => ?_)
        go_simp
        refine (HT1.out _).mono ?_
        rintro e V1 ⟨gp, cp1, rfl, hgp, hbuf1, hb⟩
        have hC1 := HC1.out _ (Kit.step (HC2.out _ hC0) hb)
        have HBF1 := Lib.hid hbuf1
        have HBV1 := Lib.hid (Kit.step (HC2.out _ hC0) hb)
        clear hb hgp hbuf1
        refine hK _ _ hC1 ?_
        clear hK K hC0
        rename C _ => hC0
        refine Rgt.ready (i := 5) (by kernel_rfl) rfl (by kernel_rfl) (fun K hK => ?_)
        go_simp
        refine (HT2.out _).mono ?_
        rintro e V2 ⟨gq, cq1, rfl, hgq, hbuf2, hb⟩
        have hC1 := HC1.out _ (Kit.step (HC2.out _ hC0) hb)
        have HBF2 := Lib.hid hbuf2
        have HBF1' := Lib.hid (HBF1.out.later hb)
        have HBV2 := Lib.hid (Kit.step HBV1.out hb)
        clear hb hgq hbuf2
        refine hK _ _ hC1 ?_
        clear hK K hC0
        rename C _ => hC0
        refine Rgt.ready (i := 6) (by kernel_rfl) rfl (by kernel_rfl) (fun K hK => ?_)
        go_simp
        refine hK _ _ hC0 ?_
        clear hK K
        refine Rgt.ready (i := 7) (by kernel_rfl) rfl (by kernel_rfl) (fun K hK => ?_)
        go_simp
        refine hK _ _ hC0 ?_
        clear hK K
        refine Rgt.done (by kernel_rfl) ?_ _
        clear hC0 HC1 HC2 C HF HT1 HT2
        rename World => V2
        have HV := HDW.out.later (Kit.step HB12.out HBV2.out)
        have HVV := Lib.hid HV
        have hl1 : (1 :: (x ++ d) : List UInt8).length = 65 := by simp [HLL.out.1, HLL.out.2.2]
        have hl2 : (1 :: (y ++ d) : List UInt8).length = 65 := by simp [HLL.out.2.1, HLL.out.2.2]
        have HSX : Hid (∀ W, Below V2.heap.size V2 W → ∃ V', W.alloc (.cells #[.slice (some ⟨gp, 0, none⟩) 65 cp1] 27) = V' ∧ Below W.heap.size W V' ∧
            Calls Tryd.prog 48 #[.slice (some ⟨W.heap.size, 0, none⟩) 1 1] V' fun e w' => e = .returned (.agg NX) ∧ Below V'.heap.size V' w') := Lib.hid fun W hW => by
          rw [← HNN.out.2.2.1]
          exact shaof14 _ gp cp1 65 hl1 W (HBF1'.out.later hW) (HVV.out.later hW) (by omega)
        have HSY : Hid (∀ W, Below V2.heap.size V2 W → ∃ V', W.alloc (.cells #[.slice (some ⟨gq, 0, none⟩) 65 cq1] 27) = V' ∧ Below W.heap.size W V' ∧
            Calls Tryd.prog 48 #[.slice (some ⟨W.heap.size, 0, none⟩) 1 1] V' fun e w' => e = .returned (.agg NY) ∧ Below V'.heap.size V' w') := Lib.hid fun W hW => by
          rw [← HNN.out.2.2.2]
          exact shaof14 _ gq cq1 65 hl2 W (HBF2.out.later hW) (HVV.out.later hW) (by omega)
        have k1 := run_string HBF1'.out.row Tryd.underlying27 Tryd.underlying5 Tryd.underlying9 cp1
        have k2 := run_string HBF2.out.row Tryd.underlying27 Tryd.underlying5 Tryd.underlying9 cq1
        rw [hl1] at k1
        rw [hl2] at k2
        have hq1 := str_beq14 (1 :: (x ++ d)) (1 :: (y ++ d))
        have hxy : ((1 :: (x ++ d) : List UInt8) == 1 :: (y ++ d)) = (x == y) := by
          by_cases h : x = y
          · rw [h]; simp
          · rw [beq_false_of_ne h, beq_false_of_ne (fun e => h (List.append_cancel_right (List.cons.inj e).2))]
        rw [hxy] at hq1
        have hne1 : (1 :: (x ++ d) : List UInt8) ≠ 1 :: (y ++ d) ↔ x ≠ y := ⟨fun h e => h (by rw [e]), fun h e => h (List.append_cancel_right (List.cons.inj e).2)⟩
        obtain ⟨SP, hSP⟩ : ∃ S, (⟨(1 :: (x ++ d) : List UInt8).toArray⟩ : ByteArray) = S := ⟨_, rfl⟩
        obtain ⟨SQ, hSQ⟩ : ∃ S, (⟨(1 :: (y ++ d) : List UInt8).toArray⟩ : ByteArray) = S := ⟨_, rfl⟩
        rw [hSP] at k1 hq1
        rw [hSQ] at k2 hq1
        have HNE := Lib.hid hne1
        have hqN : ∀ v, (binOp .eql 41 (.agg NX) (.agg NY)).run Tryd.prog v = .ok (.bool (Da.nd x d == Da.nd y d)) v := fun v => by
          have := dgq_eql (Da.nd x d) (Da.nd y d) (Da.nd_length _ _) (Da.nd_length _ _) v
          rw [HNN.out.2.2.1, HNN.out.2.2.2] at this
          exact this
        have hgd := dgq_guard
        have HQN := Lib.hid hqN
        clear HV hl1 hl2 hxy hne1 hSP hSQ hqN
        have HBLV2 : Hid (Below V2.heap.size V2 V2) := Lib.hid (Below.refl _ _)
        by_cases hxy : x = y
        · have HGCN : Hid (Da.gcl (Da.nd x d) (Da.nd y d) (ps.drop (i + 1)) = true) := Lib.hid (by have h := HGC2.out; rw [if_neg (fun hh => HNE.out.1 hh.1 hxy)] at h; exact h)
          have hxb : (x == y) = true := by rw [hxy]; exact beq_self_eq_true _
          rw [hxb] at hq1
          have HXY := Lib.hid hxy
          clear hxb hxy
          go_upto_region 21 with fail
          apply wp_region_lit
          obtain ⟨U1, hal, hbl, hso⟩ := HSX.out V2 HBLV2.out
          have HAL := Lib.hid hal
          have HSO := Lib.hid hso
          have HBA := Lib.hid hbl
          clear hal hbl hso
          (refine wpList_plain rfl (fun K hK => ?_); go_simp; refine hK _ _ ?_; clear hK K)
          (refine wpList_plain rfl (fun K hK => ?_); go_simp; refine hK _ _ ?_; clear hK K)
          rw [HAL.out]
          refine wpList_plain rfl (fun K hK => ?_)
          go_simp
          refine HSO.out.mono ?_
          rintro e U2 ⟨rfl, hb⟩
          have HBLU2 := Lib.hid (Kit.step HBLV2.out (Kit.step HBA.out hb))
          refine hK _ _ ?_
          clear hK K HAL HSO HBA hb
          obtain ⟨U3, hal, hbl, hso⟩ := HSY.out U2 HBLU2.out
          have HAL := Lib.hid hal
          have HSO := Lib.hid hso
          have HBA := Lib.hid hbl
          clear hal hbl hso
          (refine wpList_plain rfl (fun K hK => ?_); go_simp; refine hK _ _ ?_; clear hK K)
          (refine wpList_plain rfl (fun K hK => ?_); go_simp; refine hK _ _ ?_; clear hK K)
          rw [HAL.out]
          refine wpList_plain rfl (fun K hK => ?_)
          go_simp
          refine HSO.out.mono ?_
          rintro e U4 ⟨rfl, hb⟩
          have HBLU4 := Lib.hid (Kit.step HBLU2.out (Kit.step HBA.out hb))
          refine hK _ _ ?_
          clear hK K HAL HSO HBA hb
          have hb24 := Kit.step HBV2.out HBLU4.out
          have hx4 : U4.heap[px]? = some (.cells XA 41 (0, 0)) := by rw [hb24.block px (Array.getElem?_eq_some_iff.1 HX2.out).1]; exact HX2.out
          have hy4 : U4.heap[py]? = some (.cells YB 41 (0, 0)) := by rw [hb24.block py (Array.getElem?_eq_some_iff.1 HY2'.out).1]; exact HY2'.out
          have hy5 : (U4.setRow px NX).heap[py]? = some (.cells YB 41 (0, 0)) := by rw [setRow_other U4 px py NX (Ne.symm HPX.out.1)]; exact hy4
          have HX4 := Lib.hid hx4
          have HY5 := Lib.hid hy5
          have HFX := Lib.hid (show ((U4.setRow px NX).setRow py NY).heap[px]? = some (.cells NX 41 (0, 0)) by rw [setRow_other _ py px NY HPX.out.1]; exact setRow_heap _ _ _ _ _ _ hx4)
          have HFY := Lib.hid (show ((U4.setRow px NX).setRow py NY).heap[py]? = some (.cells NY 41 (0, 0)) from setRow_heap _ _ _ _ _ _ hy5)
          have HFM := Lib.hid (show Rf.Mut (fun k => k = px ∨ k = py) X5 ((U4.setRow px NX).setRow py NY) from (((HM.out.trans (.of_below (Kit.step HB12.out hb24))).trans (Rf.Mut.setRow U4 px NX (.inl rfl))).trans (Rf.Mut.setRow _ py NY (.inr rfl))))
          clear hb24 hx4 hy4 hy5
          refine wpList_store_row rfl 41 (.tmp 5) (.tmp 80) rfl px NX rfl rfl 41 XA HX4.out HNXS.out HNXZ.out HNXO.out ?_
          refine wpList_store_row rfl 41 (.tmp 6) (.tmp 83) rfl py NY rfl rfl 41 YB HY5.out HNYS.out HNYZ.out HNYO.out ?_
          go_wp2_with fail
          go_roundw
          case rel => exact ⟨i + 1, Da.nd x d, Da.nd y d, by go_num, by rw [HPE.out]; omega, Da.nd_length _ _, Da.nd_length _ _, HGCN.out, by rw [HNN.out.2.2.1]; exact HFX.out, by rw [HNN.out.2.2.2]; exact HFY.out, HFM.out⟩
          case measure => simp [intOf]; omega
        have hxb : (x == y) = false := beq_false_of_ne hxy
        rw [hxb] at hq1
        have HXY := Lib.hid hxy
        clear hxb hxy
        go_upto_region 19 with fail
        apply wp_region_lit
        (refine wpList_plain rfl (fun K hK => ?_); go_simp; refine hK _ _ ?_; clear hK K)
        (refine wpList_plain rfl (fun K hK => ?_); go_simp; refine hK _ _ ?_; clear hK K)
        (refine wpList_plain rfl (fun K hK => ?_); go_simp; refine hK _ _ ?_; clear hK K)
        (refine wpList_plain rfl (fun K hK => ?_); go_simp; refine hK _ _ ?_; clear hK K)
        (refine wpList_plain rfl (fun K hK => ?_); go_simp; refine hK _ _ ?_; clear hK K)
        (refine wpList_plain rfl (fun K hK => ?_); go_simp; refine hK _ _ ?_; clear hK K)
        obtain ⟨T1, hal, hbl, hso⟩ := HSX.out V2 HBLV2.out
        have HAL := Lib.hid hal
        have HSO := Lib.hid hso
        have HBA := Lib.hid hbl
        clear hal hbl hso
        (refine BigFrame.wpList_want (by rfl) (fun K hK => ?_); go_simp; refine hK _ _ ?_; clear hK K)
        (refine BigFrame.wpList_want (by rfl) (fun K hK => ?_); go_simp; refine hK _ _ ?_; clear hK K)
        rw [HAL.out]
        refine BigFrame.wpList_want (by rfl) (fun K hK => ?_)
        go_simp
        refine HSO.out.mono ?_
        rintro e T2 ⟨rfl, hb⟩
        have HBLT2 := Lib.hid (Kit.step HBLV2.out (Kit.step HBA.out hb))
        refine hK _ _ ?_
        clear hK K HAL HSO HBA hb
        obtain ⟨T3, hal, hbl, hso⟩ := HSY.out T2 HBLT2.out
        have HAL := Lib.hid hal
        have HSO := Lib.hid hso
        have HBA := Lib.hid hbl
        clear hal hbl hso
        (refine BigFrame.wpList_want (by rfl) (fun K hK => ?_); go_simp; refine hK _ _ ?_; clear hK K)
        (refine BigFrame.wpList_want (by rfl) (fun K hK => ?_); go_simp; refine hK _ _ ?_; clear hK K)
        rw [HAL.out]
        refine BigFrame.wpList_want (by rfl) (fun K hK => ?_)
        go_simp
        refine HSO.out.mono ?_
        rintro e T4 ⟨rfl, hb⟩
        have HBLT4 := Lib.hid (Kit.step HBLT2.out (Kit.step HBA.out hb))
        refine hK _ _ ?_
        clear hK K HAL HSO HBA hb
        by_cases hnn : Da.nd x d = Da.nd y d
        · have hqe : ∀ v, (binOp .eql 41 (.agg NX) (.agg NY)).run Tryd.prog v = .ok (.bool true) v := fun v => by rw [HQN.out v, hnn, beq_self_eq_true]
          have HN2 := Lib.hid hnn
          have HFB : Hid (Below w.heap.size w T4) := Lib.hid (Kit.step HBWW.out (Kit.step HB12.out (Kit.step HBV2.out HBLT4.out)))
          clear hnn
          go_wp2_with fail
          go_ret
          exact ⟨rfl, HFB.out⟩
        have hqe : ∀ v, (binOp .eql 41 (.agg NX) (.agg NY)).run Tryd.prog v = .ok (.bool false) v := fun v => by rw [HQN.out v, beq_false_of_ne hnn]
        have HGCN : Hid (Da.gcl (Da.nd x d) (Da.nd y d) (ps.drop (i + 1)) = true) := Lib.hid (by have h := HGC2.out; rw [if_neg (fun hh => hnn hh.2)] at h; exact h)
        have HN2 := Lib.hid hnn
        clear hnn
        go_upto_region 21 with fail
        apply wp_region_lit
        obtain ⟨U1, hal, hbl, hso⟩ := HSX.out T4 HBLT4.out
        have HAL := Lib.hid hal
        have HSO := Lib.hid hso
        have HBA := Lib.hid hbl
        clear hal hbl hso
        (refine wpList_plain rfl (fun K hK => ?_); go_simp; refine hK _ _ ?_; clear hK K)
        (refine wpList_plain rfl (fun K hK => ?_); go_simp; refine hK _ _ ?_; clear hK K)
        rw [HAL.out]
        refine wpList_plain rfl (fun K hK => ?_)
        go_simp
        refine HSO.out.mono ?_
        rintro e U2 ⟨rfl, hb⟩
        have HBLU2 := Lib.hid (Kit.step HBLT4.out (Kit.step HBA.out hb))
        refine hK _ _ ?_
        clear hK K HAL HSO HBA hb
        obtain ⟨U3, hal, hbl, hso⟩ := HSY.out U2 HBLU2.out
        have HAL := Lib.hid hal
        have HSO := Lib.hid hso
        have HBA := Lib.hid hbl
        clear hal hbl hso
        (refine wpList_plain rfl (fun K hK => ?_); go_simp; refine hK _ _ ?_; clear hK K)
        (refine wpList_plain rfl (fun K hK => ?_); go_simp; refine hK _ _ ?_; clear hK K)
        rw [HAL.out]
        refine wpList_plain rfl (fun K hK => ?_)
        go_simp
        refine HSO.out.mono ?_
        rintro e U4 ⟨rfl, hb⟩
        have HBLU4 := Lib.hid (Kit.step HBLU2.out (Kit.step HBA.out hb))
        refine hK _ _ ?_
        clear hK K HAL HSO HBA hb
        have hb24 := Kit.step HBV2.out HBLU4.out
        have hx4 : U4.heap[px]? = some (.cells XA 41 (0, 0)) := by rw [hb24.block px (Array.getElem?_eq_some_iff.1 HX2.out).1]; exact HX2.out
        have hy4 : U4.heap[py]? = some (.cells YB 41 (0, 0)) := by rw [hb24.block py (Array.getElem?_eq_some_iff.1 HY2'.out).1]; exact HY2'.out
        have hy5 : (U4.setRow px NX).heap[py]? = some (.cells YB 41 (0, 0)) := by rw [setRow_other U4 px py NX (Ne.symm HPX.out.1)]; exact hy4
        have HX4 := Lib.hid hx4
        have HY5 := Lib.hid hy5
        have HFX := Lib.hid (show ((U4.setRow px NX).setRow py NY).heap[px]? = some (.cells NX 41 (0, 0)) by rw [setRow_other _ py px NY HPX.out.1]; exact setRow_heap _ _ _ _ _ _ hx4)
        have HFY := Lib.hid (show ((U4.setRow px NX).setRow py NY).heap[py]? = some (.cells NY 41 (0, 0)) from setRow_heap _ _ _ _ _ _ hy5)
        have HFM := Lib.hid (show Rf.Mut (fun k => k = px ∨ k = py) X5 ((U4.setRow px NX).setRow py NY) from (((HM.out.trans (.of_below (Kit.step HB12.out hb24))).trans (Rf.Mut.setRow U4 px NX (.inl rfl))).trans (Rf.Mut.setRow _ py NY (.inr rfl))))
        clear hb24 hx4 hy4 hy5
        refine wpList_store_row rfl 41 (.tmp 5) (.tmp 80) rfl px NX rfl rfl 41 XA HX4.out HNXS.out HNXZ.out HNXO.out ?_
        refine wpList_store_row rfl 41 (.tmp 6) (.tmp 83) rfl py NY rfl rfl 41 YB HY5.out HNYS.out HNYZ.out HNYO.out ?_
        go_wp2_with fail
        go_roundw
        case rel => exact ⟨i + 1, Da.nd x d, Da.nd y d, by go_num, by rw [HPE.out]; omega, Da.nd_length _ _, Da.nd_length _ _, HGCN.out, by rw [HNN.out.2.2.1]; exact HFX.out, by rw [HNN.out.2.2.2]; exact HFY.out, HFM.out⟩
        case measure => simp [intOf]; omega
end Go.Proofs.YtfccpfmgkpcnoaaDoor
namespace Go.Proofs.YtfccpfmgkpcnoaaDoor
open Go.RowKit
set_option linter.unusedVariables false
set_option linter.unusedSimpArgs false
theorem cl14_any (m n : Nat) (old now oth : List UInt8) (op : Option Addr) (cp : Nat) (ps : List (List UInt8)) (ho : old.length = 32) (hw : now.length = 32) (hy : oth.length = 32) (hm : 1 ≤ m) (hn : n ≤ 512) (hmn : m ≤ n) (h40 : ps.length ≤ 40) (hwy : Da.wyl m n = some ps.length) (hgc : Da.gcl old oth ps = true) (w : World) (hP : DgIs w op ps cp) (hV : Cds w) :
    Calls Tryd.prog 29 #[.agg (askG (m : Int) (n : Int) old now (.slice op ps.length cp)).toArray, .agg (bytesV oth).toArray] w fun e w' => e = .returned (.bool true) ∧ Below w.heap.size w w' := cl14_of _ rfl dg_zero m n old now oth op cp ps ho hw hy hm hn hmn h40 hwy hgc w hP hV
theorem askG_info : (Tryd.prog.info? 54).map (·.size) = some 67 := by kernel_rfl
set_option maxRecDepth 100000 in
set_option maxHeartbeats 4000000 in
theorem wz14_any (A : Nat → Addr) (hC : GrC A) (m n : Int) (old now oth : List UInt8) (op : Option Addr) (cp : Nat) (ps : List (List UInt8)) (ho : old.length = 32) (hw : now.length = 32) (hy : oth.length = 32) (w : World) (hP : DgIs w op ps cp) (hV : Cds w) (hD : Rds w) (hE : E13 w A) :
    Calls Tryd.prog 7 #[.agg (askG m n old now (.slice op ps.length cp)).toArray, .agg (bytesV oth).toArray] w fun e w' => e = .returned (.bool true) ∧ Below w.heap.size w w' := by
  have hla : (askG m n old now (.slice op ps.length cp)).length = 67 := by simp [askG, ho, hw]
  obtain ⟨g, hg⟩ : ∃ g, w.heap.size = g := ⟨_, rfl⟩
  obtain ⟨AL, hAL⟩ : ∃ AL, askG m n old now (.slice op ps.length cp) = AL := ⟨_, rfl⟩
  obtain ⟨W1, hW1⟩ : ∃ W1, w.alloc (.cells AL.toArray 54) = W1 := ⟨_, rfl⟩
  have hs1 : W1.heap.size = g + 1 := by rw [← hW1, World.size_alloc, hg]
  obtain ⟨YA, hYA⟩ : ∃ R, (bytesV oth).toArray = R := ⟨_, rfl⟩
  obtain ⟨OA, hOA⟩ : ∃ R, (bytesV old).toArray = R := ⟨_, rfl⟩
  obtain ⟨NA, hNA⟩ : ∃ R, (bytesV now).toArray = R := ⟨_, rfl⟩
  obtain ⟨W2, hW2⟩ : ∃ W2, W1.alloc (.cells YA 40) = W2 := ⟨_, rfl⟩
  have hb1 : Below w.heap.size w W1 := by rw [← hW1]; exact new12 _ _
  have hb2 : Below W1.heap.size W1 W2 := by rw [← hW2]; exact new12 _ _
  have hk1 : AskGAt W2 g m n old now (.slice op ps.length cp) := (AskGAt.of (T := 54) ho hw (by rw [hAL, ← hW1, ← hg]; exact Arr.made _ _ _)).later hb2
  have hy2 : W2.heap[g + 1]? = some (.cells YA 40 (0, 0)) := by rw [← hW2, ← hs1]; exact World.alloc_heap_new W1 _
  obtain ⟨AA, hAA⟩ : ∃ AA, AL.toArray = AA := ⟨_, rfl⟩
  have haa : W2.heap[g]? = some (.cells AA 54 (0, 0)) := by rw [hb2.block g (by omega), ← hW1, ← hg, ← hAA]; exact World.alloc_heap_new w _
  have HAS : Hid ((Tryd.prog.info? 54).map (·.size) = some AA.size) := Lib.hid (by rw [askG_info, ← hAA, ← hAL]; simp [hla])
  obtain ⟨P, hPe⟩ : ∃ P, ps.length = P := ⟨_, rfl⟩
  rw [hPe] at hk1
  have HLO : Hid (∀ v, AskGAt v g m n old now (.slice op P cp) → (Instr.loadAt 40 (.pointer (some ⟨g, 2, none⟩))).run Tryd.prog v = .ok (.agg OA) v) := Lib.hid fun v hv => by
    have := dg_load_run d32_under dgI_doc ho hv.ro
    rw [hOA] at this
    exact this
  have HLN : Hid (∀ v, AskGAt v g m n old now (.slice op P cp) → (Instr.loadAt 40 (.pointer (some ⟨g, 34, none⟩))).run Tryd.prog v = .ok (.agg NA) v) := Lib.hid fun v hv => by
    have := dg_load_run d32_under dgI_doc hw hv.rn
    rw [hNA] at this
    exact this
  have HYS : Hid ((Tryd.prog.info? 40).map (·.size) = some YA.size) := Lib.hid (by rw [d32_info, ← hYA]; simp [hy])
  have heqd : ∀ v, (binOp .eql 40 (.agg OA) (.agg YA)).run Tryd.prog v = .ok (.bool (old == oth)) v := fun v => by
    have := d32_eql old oth ho hy v
    rw [hOA, hYA] at this
    exact this
  have ALV := hC.alive W2 (hV.later (Kit.step hb1 hb2)) (hD.later (Kit.step hb1 hb2))
  have hCL := fun (W : World) (hW : Below w.heap.size w W) (m' n' : Nat) (em : m = (m' : Int)) (en : n = (n' : Int)) (hm : 1 ≤ m') (hn : n' ≤ 512) (hmn : m' ≤ n') (h40 : P ≤ 40) (hwy : Da.wyl m' n' = some P) (hgc : Da.gcl old oth ps = true) => cl14_any m' n' old now oth op cp ps ho hw hy hm hn hmn (by omega) (by rw [hPe]; exact hwy) hgc W (hP.later hW) (hV.later hW)
  have HCL : Hid (∀ W : World, Below w.heap.size w W → P ≤ 40 → Da.gch m old n now ps = 0 → Da.gch m oth n now ps = 0 → old ≠ oth → Calls Tryd.prog 29 #[.agg AA, .agg YA] W fun e w' => e = .returned (.bool true) ∧ Below W.heap.size W w') := Lib.hid fun W hW h40 h1 h2 hne => by
    obtain ⟨hw1, hg1⟩ := Da.gch_clash h1 h2 hne
    obtain ⟨⟨q1, q2, q3⟩, _, _⟩ := Da.gch_zero h1
    have := hCL W hW m.toNat n.toNat (by omega) (by omega) (by omega) (by omega) (by omega) h40 (by rw [← hPe]; exact hw1) hg1
    rw [show ((m.toNat : Nat) : Int) = m by omega, show ((n.toNat : Nat) : Int) = n by omega, hAL, hAA, hYA] at this
    exact this
  have hlP := hP.le
  have hcP := hP.cap
  rw [hPe] at hlP
  unfold maxLen at hcP
  have CK1 := fun (W : World) (hW : Below w.heap.size w W) (o : Option Addr) (c : Nat) (hd : DgIs W o ps c) (h40 : P ≤ 40) => hC.check W m n old now ps o c ho hw (by omega) hd (hV.later hW) (hE.later hW)
  have CK2 := fun (W : World) (hW : Below w.heap.size w W) (o : Option Addr) (c : Nat) (hd : DgIs W o ps c) (h40 : P ≤ 40) => hC.check W m n oth now ps o c hy hw (by omega) hd (hV.later hW) (hE.later hW)
  obtain ⟨r1, hr1⟩ : ∃ r, Da.gch m old n now ps = r := ⟨_, rfl⟩
  obtain ⟨r2, hr2⟩ : ∃ r, Da.gch m oth n now ps = r := ⟨_, rfl⟩
  obtain ⟨E1, hE1⟩ : ∃ E, errP A r1 = E := ⟨_, rfl⟩
  obtain ⟨E2, hE2⟩ : ∃ E, errP A r2 = E := ⟨_, rfl⟩
  simp only [hOA, hNA, hPe, hr1, hE1] at CK1
  simp only [hYA, hNA, hPe, hr2, hE2] at CK2
  have DG := fun (W : World) (hW : Below w.heap.size w W) (h40 : P ≤ 40) => digs_any ps op P cp hPe (by omega) W (hP.later hW)
  rw [hPe] at hAL ⊢
  rw [hAL, hAA, hYA]
  rw [hAA] at hW1
  have HALV := Lib.hid ALV
  have HG := Lib.hid hg
  have HW1 := Lib.hid hW1
  have HW2 := Lib.hid hW2
  have HB2 := Lib.hid (Kit.step hb1 hb2)
  have HK2 := Lib.hid hk1
  have HY2 := Lib.hid hy2
  have HA2 := Lib.hid haa
  have HR := Lib.hid (And.intro hr1 hr2)
  have HEE := Lib.hid (And.intro hE1 hE2)
  have HCK1 := Lib.hid CK1
  have HCK2 := Lib.hid CK2
  have HDG := Lib.hid DG
  have HEQD := Lib.hid heqd
  have hgd := d32_guard
  have hnn := neq_nil13
  clear ALV hg hW1 hW2 hb1 hb2 hk1 hy2 haa hs1 hr1 hr2 hE1 hE2 CK1 CK2 DG heqd hCL hla hAL hAA hYA hOA hNA hPe ho hw hy hP hV hD hE hC AL
  go_enter Tryd.func7, Tryd.ntmps7
  go_upto_region 1 with fail
  rw [HW1.out, HW2.out, HG.out]
  go_wp2_with fail
  refine HALV.out.mono ?_
  rintro e W3 ⟨rfl, hb3⟩
  have HB23 := Lib.hid hb3
  have HB3 := Lib.hid (Kit.step HB2.out hb3)
  have HK3 := Lib.hid (HK2.out.later hb3)
  clear hb3 HALV
  have hcp := HK3.out.cp
  by_cases h40 : 40 < P
  · have hd3 : decide ((P : Int) > 40) = true := decide_eq_true (by omega)
    have hd4 : decide (40 < (P : Int)) = true := decide_eq_true (by omega)
    have H40 := Lib.hid h40
    clear h40
    go_wp2_with fail
    go_ret
    exact ⟨rfl, HB3.out⟩
  have hd3 : decide ((P : Int) > 40) = false := decide_eq_false (by omega)
  have hd4 : decide (40 < (P : Int)) = false := decide_eq_false (by omega)
  have H40 : Hid (P ≤ 40) := Lib.hid (by omega)
  clear h40
  go_wp2_with fail
  refine (HDG.out W3 HB3.out H40.out).mono ?_
  rintro e W4 ⟨o4, c4, rfl, hdg4, hb4⟩
  have HB24 := Lib.hid (Kit.step HB23.out hb4)
  have HB4 := Lib.hid (Kit.step HB3.out hb4)
  have HK4 := Lib.hid (HK3.out.later hb4)
  have HDG4 := Lib.hid hdg4
  clear hb4 hdg4 hcp hd3 hd4 HDG
  have hcm := HK4.out.cm
  have hcn := HK4.out.cn
  go_upto_region 6 with fail
  apply wp_region_lit
  (refine wpList_plain rfl (fun K hK => ?_); go_simp; refine hK _ _ ?_; clear hK K)
  (refine wpList_plain rfl (fun K hK => ?_); go_simp; refine hK _ _ ?_; clear hK K)
  (refine wpList_plain rfl (fun K hK => ?_); go_simp; refine hK _ _ ?_; clear hK K)
  refine wpList_plain rfl (fun K hK => oper_exec (exec_mid14 rfl rfl (HLO.out _ HK4.out)) (hK _ _ ?_))
  (refine wpList_plain rfl (fun K hK => ?_); go_simp; refine hK _ _ ?_; clear hK K)
  (refine wpList_plain rfl (fun K hK => ?_); go_simp; refine hK _ _ ?_; clear hK K)
  (refine wpList_plain rfl (fun K hK => ?_); go_simp; refine hK _ _ ?_; clear hK K)
  refine wpList_plain rfl (fun K hK => oper_exec (exec_mid14 rfl rfl (HLN.out _ HK4.out)) (hK _ _ ?_))
  (refine wpList_plain rfl (fun K hK => ?_); go_simp; refine hK _ _ ?_; clear hK K)
  (refine wpList_plain rfl (fun K hK => ?_); go_simp)
  refine (HCK1.out W4 HB4.out o4 c4 HDG4.out H40.out).mono ?_
  rintro e W5 ⟨rfl, hb5⟩
  refine hK _ _ ?_
  clear hK K hcm hcn HCK1
  have HB25 := Lib.hid (Kit.step HB24.out hb5)
  have HB5 := Lib.hid (Kit.step HB4.out hb5)
  have HK5 := Lib.hid (HK4.out.later hb5)
  have HDG5 := Lib.hid (HDG4.out.later hb5)
  have HY5 := Lib.hid (show W5.heap[g + 1]? = some (.cells YA 40 (0, 0)) by rw [HB25.out.block (g + 1) (Array.getElem?_eq_some_iff.1 HY2.out).1]; exact HY2.out)
  clear hb5
  have hcm := HK5.out.cm
  have hcn := HK5.out.cn
  go_upto_region 7 with fail
  apply wp_region_lit
  (refine wpList_plain rfl (fun K hK => ?_); go_simp; refine hK _ _ ?_; clear hK K)
  (refine wpList_plain rfl (fun K hK => ?_); go_simp; refine hK _ _ ?_; clear hK K)
  refine wpList_load_row rfl 40 (.tmp 3) rfl (g + 1) rfl 40 YA (0, 0) _ HY5.out d32_under rfl HYS.out ?_
  (refine wpList_plain rfl (fun K hK => ?_); go_simp; refine hK _ _ ?_; clear hK K)
  (refine wpList_plain rfl (fun K hK => ?_); go_simp; refine hK _ _ ?_; clear hK K)
  (refine wpList_plain rfl (fun K hK => ?_); go_simp; refine hK _ _ ?_; clear hK K)
  refine wpList_plain rfl (fun K hK => oper_exec (exec_mid14 rfl rfl (HLN.out _ HK5.out)) (hK _ _ ?_))
  (refine wpList_plain rfl (fun K hK => ?_); go_simp; refine hK _ _ ?_; clear hK K)
  (refine wpList_plain rfl (fun K hK => ?_); go_simp)
  refine (HCK2.out W5 HB5.out o4 c4 HDG5.out H40.out).mono ?_
  rintro e W6 ⟨rfl, hb6⟩
  refine hK _ _ ?_
  clear hK K hcm hcn HCK2
  have HB26 := Lib.hid (Kit.step HB25.out hb6)
  have HB6 := Lib.hid (Kit.step HB5.out hb6)
  have HK6 := Lib.hid (HK5.out.later hb6)
  have HY6 := Lib.hid (show W6.heap[g + 1]? = some (.cells YA 40 (0, 0)) by rw [HB26.out.block (g + 1) (Array.getElem?_eq_some_iff.1 HY2.out).1]; exact HY2.out)
  have HA6 := Lib.hid (show W6.heap[g]? = some (.cells AA 54 (0, 0)) by rw [HB26.out.block g (Array.getElem?_eq_some_iff.1 HA2.out).1]; exact HA2.out)
  clear hb6
  by_cases h1 : r1 = 0
  rotate_left
  · have hev : E1 = .iface 135 (.pointer (some (A (r1 - 1)))) := by rw [← HEE.out.1]; unfold errP; rw [if_neg h1]
    subst hev
    have H1 := Lib.hid h1
    clear h1
    go_wp2_with fail
    go_ret
    exact ⟨rfl, HB6.out⟩
  have hev : E1 = .nilIface := by rw [← HEE.out.1, h1]; rfl
  subst hev
  by_cases h2 : r2 = 0
  rotate_left
  · have hev : E2 = .iface 135 (.pointer (some (A (r2 - 1)))) := by rw [← HEE.out.2]; unfold errP; rw [if_neg h2]
    subst hev
    have H1 := Lib.hid (And.intro h1 h2)
    clear h1 h2
    go_wp2_with fail
    go_ret
    exact ⟨rfl, HB6.out⟩
  have hev : E2 = .nilIface := by rw [← HEE.out.2, h2]; rfl
  subst hev
  have H12 := Lib.hid (And.intro h1 h2)
  clear h1 h2
  go_upto_region 8 with fail
  apply wp_region_lit
  (refine wpList_plain rfl (fun K hK => ?_); go_simp; refine hK _ _ ?_; clear hK K)
  (refine wpList_plain rfl (fun K hK => ?_); go_simp; refine hK _ _ ?_; clear hK K)
  (refine wpList_plain rfl (fun K hK => ?_); go_simp; refine hK _ _ ?_; clear hK K)
  (refine BigFrame.wpList_want (by rfl) (fun K hK => ?_); go_simp; refine hK _ _ ?_; clear hK K)
  (refine BigFrame.wpList_want (by rfl) (fun K hK => ?_); go_simp; refine hK _ _ ?_; clear hK K)
  (refine wpList_plain rfl (fun K hK => ?_); go_simp; refine hK _ _ ?_; clear hK K)
  (refine wpList_plain rfl (fun K hK => ?_); go_simp; refine hK _ _ ?_; clear hK K)
  (refine BigFrame.wpList_want (by rfl) (fun K hK => ?_); go_simp; refine hK _ _ ?_; clear hK K)
  refine BigFrame.wpList_want (by rfl) (fun K hK => oper_exec (exec_mid14 rfl rfl (HLO.out _ HK6.out)) (hK _ _ ?_))
  refine BigFrame.wpList_want (by rfl) (fun K hK => wp_load_row 40 (.tmp 3) rfl (g + 1) rfl 40 YA (0, 0) _ HY6.out d32_under rfl HYS.out (hK _ _ ?_))
  by_cases hne : old = oth
  · have hq : ∀ v, (binOp .eql 40 (.agg OA) (.agg YA)).run Tryd.prog v = .ok (.bool true) v := fun v => by rw [HEQD.out v, hne, beq_self_eq_true]
    have HNE := Lib.hid hne
    clear hne
    go_wp2_with fail
    go_ret
    exact ⟨rfl, HB6.out⟩
  have hq : ∀ v, (binOp .eql 40 (.agg OA) (.agg YA)).run Tryd.prog v = .ok (.bool false) v := fun v => by rw [HEQD.out v, beq_false_of_ne hne]
  have HCC := Lib.hid (HCL.out W6 HB6.out H40.out (by rw [HR.out.1]; exact H12.out.1) (by rw [HR.out.2]; exact H12.out.2) hne)
  have HNE := Lib.hid hne
  clear hne
  go_upto_region 10 with fail
  apply wp_region_lit
  refine wpList_load_row rfl 54 (.tmp 2) rfl g rfl 54 AA (0, 0) _ HA6.out Tryd.underlying54 rfl HAS.out ?_
  refine wpList_load_row rfl 40 (.tmp 3) rfl (g + 1) rfl 40 YA (0, 0) _ HY6.out d32_under rfl HYS.out ?_
  (refine wpList_plain rfl (fun K hK => ?_); go_simp)
  refine HCC.out.mono ?_
  rintro e W7 ⟨rfl, hb7⟩
  refine hK _ _ ?_
  clear hK K
  have HB7 := Lib.hid (Kit.step HB6.out hb7)
  clear hb7
  go_wp2_with fail
  go_ret
  exact ⟨rfl, HB7.out⟩
end Go.Proofs.YtfccpfmgkpcnoaaDoor
