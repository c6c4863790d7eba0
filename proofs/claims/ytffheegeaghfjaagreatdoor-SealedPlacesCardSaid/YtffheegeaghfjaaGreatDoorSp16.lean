/- Sp16 -/
import Derived.Test.YtffheegeaghfjaaGreatDoorYHPS
import Derived.Test.YtffheegeaghfjaaGreatDoorYHPT
import Derived.Test.YtffheegeaghfjaaGreatDoorYPST
import Derived.Test.YtffheegeaghfjaaGreatDoorYPS
import Derived.Test.YtffheegeaghfjaaGreatDoorYP
import Derived.Test.YtffheegeaghfjaaGreatDoorRw16
set_option linter.unusedVariables false
set_option linter.unusedSimpArgs false
set_option maxRecDepth 100000
set_option maxHeartbeats 8000000
namespace Go.Proofs.YtffheegeaghfjaaGreatDoor
open Go.RowKit
theorem md16p_info : (Tryz.prog.info? 26).map (·.size) = some 9 := by kernel_rfl
theorem pm16c_info : (Tryz.prog.info? 24).map (·.size) = some 6 := by kernel_rfl
theorem str_same16 (a : ByteArray) (W : World) : (binOp .eql 9 (.string a) (.string a)).run Tryz.prog W = .ok (.bool true) W := by
 have hu := Tryz.underlying9
 go_simp
theorem Da.abad_le16 (m r : Bool) : Da.abad m r <= 9 := by unfold Da.abad; split <;> (try split) <;> omega
theorem Da.ob11_le16 (n : Nat) (i : Int) : Da.ob11 n i <= 1 := by unfold Da.ob11; split <;> omega
theorem Da.rdy16_zero {K : List UInt8} {N : Int} {p : Pm15} (h : Da.rdy16 K N p = 0) : Da.bad15 p = 0 /\ Da.abad (Da.isMas K.length) (Da.inR N) = 0 := by
 unfold Da.rdy16 at h
 by_cases h0 : Da.bad15 p = 0
 ·rw [if_pos h0] at h
  exact ⟨h0, h⟩
 ·rw [if_neg h0] at h
  exact absurd ((Da.err15_zero (Da.bad15_le p)).1 h) h0
theorem Da.sen16_pb {K : List UInt8} {N : Int} {p : Pm15} (i : Int) (h : Da.rdy16 K N p ≠ 0) : Da.sen16 p (Da.pbad16 K N p i) = Da.rdy16 K N p := by
 unfold Da.sen16 Da.pbad16
 unfold Da.rdy16 at h ⊢
 by_cases h0 : Da.bad15 p = 0
 ·rw [if_pos h0] at h ⊢
  rw [if_pos h0, if_neg h]
 ·rw [if_neg h0, if_neg h0]
theorem Da.sen16_jb {K : List UInt8} {N : Int} {p : Pm15} (j : Int) (h : Da.rdy16 K N p ≠ 0) : Da.sen16 p (Da.jbad16 K N p j) = Da.rdy16 K N p := by
 unfold Da.sen16 Da.jbad16
 unfold Da.rdy16 at h ⊢
 by_cases h0 : Da.bad15 p = 0
 ·rw [if_pos h0] at h ⊢
  rw [if_pos h0, if_neg h]
 ·rw [if_neg h0, if_neg h0]
theorem Da.pbad16_le (K : List UInt8) (N : Int) (p : Pm15) (i : Int) : Da.pbad16 K N p i <= 20 := by
 have h1 := Da.abad_le16 (Da.isMas K.length) (Da.inR N)
 have h2 := Da.ob11_le16 (Da.n16 p) i
 unfold Da.pbad16
 split <;> omega
theorem Da.jbad16_le (K : List UInt8) (N : Int) (p : Pm15) (j : Int) : Da.jbad16 K N p j <= 20 := by
 have h1 := Da.abad_le16 (Da.isMas K.length) (Da.inR N)
 unfold Da.jbad16
 split
 ·split <;> omega
 ·omega
theorem sev_good {A : Nat -> Addr} {p : Pm15} {k : Nat} {W : World} {v : Value} (h : SeV A p k W v) (h0 : Da.bad15 p = 0) : v = errV A k := by
 rcases h with ⟨h1, _⟩ | ⟨_, h1⟩
 ·exact absurd h0 h1
 ·exact h1
theorem sp16_of (Z : Array Value) (hZ : Z = nil5.toArray) (hzs : ∀ w, Sem.run Tryz.prog (zeroValue 47) w = .ok (.agg Z) w) (A : Nat -> Addr) (hC : SlC A) (U : Er.UnwrapOk)
    (MK F : List UInt8) (ok oF : Option Addr) (ck cF : Nat) (N i j : Int) (p : Pm15) (w : World) (hK : RowIs w ok (bytesV MK) ck) (hF : RowIs w oF (bytesV F) cF) (hN : in64 N) (hi : in64 i) (hj : in64 j) (hok : p.ok) (hV : Cds w) (hR : Rds w) (hE : Er.Errs w A) :
    Calls Tryz.prog 4 #[.agg (mdA (.slice ok MK.length ck) N (.slice oF F.length cF) p), .int .i64 i, .int .i64 j] w fun e w' => e = .returned (.bool true) /\ Below w.heap.size w w' := by
 obtain ⟨g, hg⟩ : ∃ g, w.heap.size = g := ⟨_, rfl⟩
 have hmt : (mdL (.slice ok MK.length ck) N (.slice oF F.length cF) p).toArray = mdA (.slice ok MK.length ck) N (.slice oF F.length cF) p := rfl
 obtain ⟨MA, hMA⟩ : ∃ MA, mdA (.slice ok MK.length ck) N (.slice oF F.length cF) p = MA := ⟨_, rfl⟩
 have hms : (Tryz.prog.info? 26).map (·.size) = some MA.size := by rw [md16p_info, <- hMA]; rfl
 obtain ⟨W1, hW1⟩ : ∃ W1, w.alloc (.cells MA 26) = W1 := ⟨_, rfl⟩
 have hM1 : W1.heap[g]? = some (.cells MA 26 (0, 0)) := by rw [<- hW1, <- hg]; exact World.alloc_heap_new w _
 have hArr : Arr W1 g 26 (mdL (.slice ok MK.length ck) N (.slice oF F.length cF) p) := by unfold Arr; rw [hmt, hMA]; exact hM1
 have hb1 : Below w.heap.size w W1 := by rw [<- hW1]; exact new12 _ _
 have hgl : g < W1.heap.size := hArr.lt
 have HM : Hid (∀ v, Below W1.heap.size W1 v -> v.heap[g]? = some (.cells MA 26 (0, 0))) := Lh fun v hv => (hv.block g hgl).trans hM1
 have HC0 : Hid (∀ v, Below W1.heap.size W1 v -> v.cell? ⟨g, 0, none⟩ = some (.slice ok MK.length ck)) := Lh fun v hv => by rw [(hArr.later hv hgl).cell]; rfl
 have HC1 : Hid (∀ v, Below W1.heap.size W1 v -> v.cell? ⟨g, 1, none⟩ = some (.int .i64 N)) := Lh fun v hv => by rw [(hArr.later hv hgl).cell]; rfl
 have HRG : Hid (∀ v, Below W1.heap.size W1 v -> v.rangeAt g 3 (pmL p)) := Lh fun v hv => (hArr.later hv hgl).range 3 _ (fun j u hu => by
  unfold mdL
  rw [List.getElem?_append_right (by simp)]
  simpa using hu)
 have HLG : Hid (∀ v, Calls Tryz.prog 8 #[.agg MA] v fun e w' => e = .returned (.bool (Da.lng16 MK F p)) /\ Below v.heap.size v w') := Lh fun v => by rw [<- hMA]; exact long16_any MK F ok oF ck cF N p v
 have HAL := Lh (al16_any A hC.sl W1 (hV.later hb1) (hE.e16.later hb1))
 obtain ⟨PA, hPA⟩ : ∃ PA, pmA p = PA := ⟨_, rfl⟩
 have hpl : (pmL p).toArray = PA := by rw [<- hPA]; rfl
 have HPL := Lh hpl
 have HPA := Lh hPA
 have HPI : Hid ((Tryz.prog.info? 41).map (·.size) = some PA.size) := Lh (by rw [<- hPA]; exact pm15_info)
 have HP1 : Hid (PA.all (·.oneCell') = true) := Lh (by rw [<- hPA]; exact pm15_oneCell _)
 have HPZ : Hid ((#[.int .i64 0, .int .i64 0, .int .i64 0, .int .i64 0, .int .i64 0, .int .i64 0] : Array Value).size = PA.size) := Lh (by rw [<- hPA]; rfl)
 have HPC : Hid ((Tryz.prog.info? 24).map (·.size) = some (pmL p).length) := Lh pm16c_info
 have HMS := Lh hms
 have HB1 := Lh hb1
 have HG := Lh hg
 have HW1 := Lh hW1
 have HC := Lh hC
 have HU := Lh U
 have HKR := Lh hK
 have HNK := Lh hN
 have HII := Lh hi
 have HJJ := Lh hj
 have HOK := Lh hok
 have HV := Lh hV
 have HRD := Lh hR
 have HE := Lh hE
 have HZ := Lh hZ
 rw [hMA]
 clear hg hMA hms hW1 hM1 hb1 hgl hC U hK hF hN hi hj hok hV hR hE hZ hArr hmt hpl hPA
 go_enter Tryz.func4, Tryz.ntmps4
 go_upto_region 1 with fail
 rw [HW1.out, HG.out]
 go_wp2_with fail
 refine HAL.out.mono ?_
 rintro e W2 ⟨rfl, hb2⟩
 have HB2 := Lh hb2
 clear hb2 HAL
 go_upto_region 3 with fail
 apply wp_region_lit
 refine wpList_load_row rfl 26 (.tmp 3) rfl g rfl 26 MA (0, 0) _ (HM.out W2 HB2.out) Tryz.underlying26 rfl HMS.out ?_
 (refine wpList_plain rfl (fun K hK => ?_); go_simp)
 refine (HLG.out W2).mono ?_
 rintro e W3 ⟨rfl, hb3⟩
 refine hK _ _ ?_
 clear hK K
 have HB3 := Lh (Ks HB2.out hb3)
 clear hb3
 obtain ⟨lg, hlg⟩ : ∃ lg, Da.lng16 MK F p = lg := ⟨_, rfl⟩
 rw [hlg]
 cases lg with
 | true =>
  clear hlg
  go_wp2_with fail
  go_ret
  exact ⟨rfl, Ks HB1.out HB3.out⟩
 | false =>
  have hKl : MK.length <= 100 := by
   unfold Da.lng16 at hlg
   simp only [Bool.or_eq_false_iff, decide_eq_false_iff_not] at hlg
   omega
  have HKL := Lh hKl
  clear hlg hKl
  go_upto_region 5 with fail
  apply wp_region_lit
  (refine wpList_plain rfl (fun K hK => ?_); go_simp; refine hK _ _ ?_; clear hK K)
  refine wpList_load_mid rfl 24 (.tmp 23) rfl g 3 rfl (pmL p) _ (HRG.out W3 HB3.out) Tryz.underlying24 rfl HPC.out ?_
  rw [HPL.out]
  obtain ⟨g7, hg7⟩ : ∃ g7, W3.heap.size = g7 := ⟨_, rfl⟩
  obtain ⟨W4, hW4⟩ : ∃ W4, W3.alloc (.cells #[.int .i64 0, .int .i64 0, .int .i64 0, .int .i64 0, .int .i64 0, .int .i64 0] 41) = W4 := ⟨_, rfl⟩
  have hz4 : W4.heap[g7]? = some (.cells #[.int .i64 0, .int .i64 0, .int .i64 0, .int .i64 0, .int .i64 0, .int .i64 0] 41 (0, 0)) := by rw [<- hW4, <- hg7]; exact World.alloc_heap_new W3 _
  obtain ⟨W5, hW5⟩ : ∃ W5, W4.setRow g7 PA = W5 := ⟨_, rfl⟩
  have hA5 : W5.heap[g7]? = some (.cells PA 41 (0, 0)) := by rw [<- hW5]; exact setRow_heap _ _ _ _ _ _ hz4
  have hb5 : Below W3.heap.size W3 W5 := by rw [<- hW5, <- hW4]; exact (new12 _ _).trans (below_row (Nat.le_of_eq hg7))
  have HA5 := Lh hA5
  have HB5 := Lh (Ks HB3.out hb5)
  have HZ4 := Lh hz4
  have HW4 := Lh hW4
  have HW5 := Lh hW5
  have HG7 := Lh hg7
  clear hg7 hW4 hz4 hW5 hA5 hb5
  (refine wpList_plain rfl (fun K hK => ?_); go_simp; refine hK _ _ ?_; clear hK K)
  rw [HW4.out, HG7.out]
  refine wpList_store_row rfl 41 (.tmp 7) (.tmp 24) rfl g7 PA rfl rfl 41 _ HZ4.out HPI.out HPZ.out HP1.out ?_
  rw [HW5.out]
  go_upto_region 6 with fail
  have hc0 := HC0.out W5 HB5.out
  have hc1 := HC1.out W5 HB5.out
  have hrd := rready16_any MK ok ck N p HOK.out W5 (HKR.out.later (Ks HB1.out HB5.out)) (HRD.out.later (Ks HB1.out HB5.out)) (by have := HKL.out; omega)
  obtain ⟨RB, hRB⟩ : ∃ RB, Da.rdy16 MK N p = RB := ⟨_, rfl⟩
  rw [hRB, HPA.out] at hrd
  have HRDY := Lh hrd
  have HRB := Lh hRB
  clear hrd hRB
  apply wp_region_lit
  iterate 4 (refine wpList_plain rfl (fun K hK => ?_); go_simp; refine hK _ _ ?_; clear hK K)
  refine wpList_load_row rfl 41 (.tmp 7) rfl g7 rfl 41 PA (0, 0) _ (HA5.out) Tryz.underlying41 rfl HPI.out ?_
  (refine wpList_plain rfl (fun K hK => ?_); go_simp)
  refine HRDY.out.mono ?_
  rintro e W6 ⟨xs, rfl, hx, hb6⟩
  refine hK _ _ ?_
  clear hK K hc0 hc1 HRDY
  obtain ⟨XA, hXA⟩ : ∃ XA : Array Value, xs.toArray = XA := ⟨_, rfl⟩
  have hxl : xs.length = 5 := by
   rw [hx.len]
   unfold Da.ares
   split <;> rfl
  have HXI : Hid ((Tryz.prog.info? 47).map (·.size) = some XA.size) := Lh (by rw [k5_info, <- hXA]; simp [hxl])
  have HFZ : Hid (Z.size = XA.size) := Lh (by rw [HZ.out, <- hXA]; simp [hxl]; rfl)
  have HFO : Hid (XA.all (·.oneCell') = true) := Lh (by rw [<- hXA]; exact all_oneCell_toArray hx.ones)
  obtain ⟨g8, hg8⟩ : ∃ g8, W6.heap.size = g8 := ⟨_, rfl⟩
  obtain ⟨W7, hW7⟩ : ∃ W7, W6.alloc (.cells Z 47) = W7 := ⟨_, rfl⟩
  have hz7 : W7.heap[g8]? = some (.cells Z 47 (0, 0)) := by rw [<- hW7, <- hg8]; exact World.alloc_heap_new W6 _
  obtain ⟨W8, hW8⟩ : ∃ W8, W7.setRow g8 XA = W8 := ⟨_, rfl⟩
  have hA8 : W8.heap[g8]? = some (.cells XA 47 (0, 0)) := by rw [<- hW8]; exact setRow_heap _ _ _ _ _ _ hz7
  have hb8 : Below W6.heap.size W6 W8 := by rw [<- hW8, <- hW7]; exact (new12 _ _).trans (below_row (Nat.le_of_eq hg8))
  have hlt5 : g7 < W5.heap.size := (aE.1 HA5.out).1
  have hP8 : W8.heap[g7]? = some (.cells PA 41 (0, 0)) := ((Ks hb6 hb8).block g7 hlt5).trans HA5.out
  have hl8 : g8 < W8.heap.size := (aE.1 hA8).1
  have hl7 : g7 < W8.heap.size := (aE.1 hP8).1
  have hE8 : RB = 0 -> Els W8 (Da.keysL MK N) xs := fun h => by
   have := hx.later hb8
   rw [h] at this
   exact this
  have HR8' : Hid (∀ v, Below W8.heap.size W8 v -> v.heap[g8]? = some (.cells XA 47 (0, 0))) := Lh fun v hv => (hv.block g8 hl8).trans hA8
  have HR7' : Hid (∀ v, Below W8.heap.size W8 v -> v.heap[g7]? = some (.cells PA 41 (0, 0))) := Lh fun v hv => (hv.block g7 hl7).trans hP8
  have HEL' : Hid (RB = 0 -> ∀ v, Below W8.heap.size W8 v -> Els v (Da.keysL MK N) xs) := Lh fun h v hv => (hE8 h).later hv
  have HB8 := Lh (Ks (Ks HB5.out hb6) hb8)
  have HQ8 : Hid (Below W8.heap.size W8 W8) := Lh (Below.refl _ _)
  have HZ7 := Lh hz7
  have HW7 := Lh hW7
  have HW8 := Lh hW8
  have HG8 := Lh hg8
  have HXA := Lh hXA
  rw [hXA]
  clear hx hb6 hXA hxl hg8 hW7 hz7 hW8 hA8 hb8 hlt5 hP8 hl8 hl7 hE8
  iterate 4 (refine wpList_plain rfl (fun K hK => ?_); go_simp; refine hK _ _ ?_; clear hK K)
  rw [HW7.out, HG8.out]
  refine wpList_store_rowTo rfl 47 (.tmp 8) (.tmp 32) rfl rfl g8 XA rfl rfl 47 Z HZ7.out HXI.out HFZ.out HFO.out ?_
  rw [HW8.out]
  (refine wpList_plain rfl (fun K hK => ?_); go_simp; refine hK _ _ ?_; clear hK K)
  go_upto_region 7 with fail
  have hc0 := HC0.out W8 HB8.out
  have hc1 := HC1.out W8 HB8.out
  have hct := HC.out.place W8 ok ck MK N p i (HKR.out.later (Ks HB1.out HB8.out)) HKL.out HNK.out HII.out HOK.out (HV.out.later (Ks HB1.out HB8.out)) (HE.out.e16.later (Ks HB1.out HB8.out))
  rw [HPA.out] at hct
  have HCT := Lh hct
  clear hct
  apply wp_region_lit
  iterate 5 (refine wpList_plain rfl (fun K hK => ?_); go_simp; refine hK _ _ ?_; clear hK K)
  refine wpList_load_mid rfl 24 (.tmp 39) rfl g 3 rfl (pmL p) _ (HRG.out W8 HB8.out) Tryz.underlying24 rfl HPC.out ?_
  rw [HPL.out]
  (refine wpList_plain rfl (fun K hK => ?_); go_simp; refine hK _ _ ?_; clear hK K)
  (refine wpList_plain rfl (fun K hK => ?_); go_simp)
  refine HCT.out.mono ?_
  rintro e W9 ⟨v1, rfl, hs1, hb⟩
  refine hK _ _ ?_
  clear hK K hc0 hc1 HCT
  have HB9 := Lh (Ks HB8.out hb)
  have HQ9 := Lh (Ks HQ8.out hb)
  clear hb
  have HS1 := Lh hs1
  clear hs1
  obtain ⟨V1, hV1⟩ : ∃ V1 : Nat, (if Da.sen16 p (Da.pbad16 MK N p i) = 0 then Da.to16 MK N p i.toNat else 0) = V1 := ⟨_, rfl⟩
  rw [hV1]
  have HV1 := Lh hV1
  clear hV1
  iterate 5 (refine wpList_plain rfl (fun K hK => ?_); go_simp; refine hK _ _ ?_; clear hK K)
  go_upto_region 8 with fail
  have hc0 := HC0.out W9 HB9.out
  have hc1 := HC1.out W9 HB9.out
  have hct := HC.out.back W9 ok ck MK N p i (HKR.out.later (Ks HB1.out HB9.out)) HKL.out HNK.out HII.out HOK.out (HV.out.later (Ks HB1.out HB9.out)) (HE.out.e16.later (Ks HB1.out HB9.out))
  rw [HPA.out] at hct
  have HCT := Lh hct
  clear hct
  apply wp_region_lit
  iterate 5 (refine wpList_plain rfl (fun K hK => ?_); go_simp; refine hK _ _ ?_; clear hK K)
  refine wpList_load_mid rfl 24 (.tmp 50) rfl g 3 rfl (pmL p) _ (HRG.out W9 HB9.out) Tryz.underlying24 rfl HPC.out ?_
  rw [HPL.out]
  (refine wpList_plain rfl (fun K hK => ?_); go_simp; refine hK _ _ ?_; clear hK K)
  (refine wpList_plain rfl (fun K hK => ?_); go_simp)
  refine HCT.out.mono ?_
  rintro e W10 ⟨v2, rfl, hs2, hb⟩
  refine hK _ _ ?_
  clear hK K hc0 hc1 HCT
  have HB10 := Lh (Ks HB9.out hb)
  have HQ10 := Lh (Ks HQ9.out hb)
  have hbk := hb
  clear hb
  have HBY : Hid (Below W9.heap.size W9 W10) := Lh hbk
  clear hbk
  have HS2 := Lh hs2
  clear hs2
  obtain ⟨V2, hV2⟩ : ∃ V2 : Nat, (if Da.sen16 p (Da.pbad16 MK N p i) = 0 then Da.fr16 MK N p i.toNat else 0) = V2 := ⟨_, rfl⟩
  rw [hV2]
  have HV2 := Lh hV2
  clear hV2
  iterate 5 (refine wpList_plain rfl (fun K hK => ?_); go_simp; refine hK _ _ ?_; clear hK K)
  go_upto_region 9 with fail
  have hc0 := HC0.out W10 HB10.out
  have hc1 := HC1.out W10 HB10.out
  have hct := HC.out.sentinel W10 ok ck MK N p j (HKR.out.later (Ks HB1.out HB10.out)) HKL.out HNK.out HJJ.out HOK.out (HV.out.later (Ks HB1.out HB10.out)) (HE.out.e16.later (Ks HB1.out HB10.out))
  rw [HPA.out] at hct
  have HCT := Lh hct
  clear hct
  apply wp_region_lit
  iterate 5 (refine wpList_plain rfl (fun K hK => ?_); go_simp; refine hK _ _ ?_; clear hK K)
  refine wpList_load_mid rfl 24 (.tmp 61) rfl g 3 rfl (pmL p) _ (HRG.out W10 HB10.out) Tryz.underlying24 rfl HPC.out ?_
  rw [HPL.out]
  (refine wpList_plain rfl (fun K hK => ?_); go_simp; refine hK _ _ ?_; clear hK K)
  (refine wpList_plain rfl (fun K hK => ?_); go_simp)
  refine HCT.out.mono ?_
  rintro e W11 ⟨xst, v3, rfl, hxst, hs3, hb⟩
  refine hK _ _ ?_
  clear hK K hc0 hc1 HCT
  have HB11 := Lh (Ks HB10.out hb)
  have HQ11 := Lh (Ks HQ10.out hb)
  have hbk := hb
  clear hb
  have HBX : Hid (Below W10.heap.size W10 W11) := Lh hbk
  clear hbk
  have HS3 := Lh hs3
  obtain ⟨V3, hV3⟩ : ∃ V3 : Nat, (if Da.sen16 p (Da.jbad16 MK N p j) = 0 then Da.jat16 MK N p j else 0) = V3 := ⟨_, rfl⟩
  rw [hV3]
  have HV3 := Lh hV3
  obtain ⟨SX, hSX⟩ : ∃ SX, (if Da.sen16 p (Da.jbad16 MK N p j) = 0 then Da.tg16 (Da.key16 MK N 3) ((Da.jat16 MK N p j : Nat) : Int) (Da.sb (Da.key16 MK N 2) j) else []) = SX := ⟨_, rfl⟩
  rw [hSX] at hxst
  have HSX := Lh hSX
  obtain ⟨os, cs, rfl, hst⟩ := hxst
  have HST' := Lh hst
  clear hs3 hV3 hSX hst
  iterate 7 (refine wpList_plain rfl (fun K hK => ?_); go_simp; refine hK _ _ ?_; clear hK K)
  have HB911 : Hid (∀ v, Below W11.heap.size W11 v -> Below W8.heap.size W8 v) := Lh fun v hv => Ks HQ11.out hv
  have HR8 : Hid (∀ v, Below W11.heap.size W11 v -> v.heap[g8]? = some (.cells XA 47 (0, 0))) := Lh fun v hv => HR8'.out v (HB911.out v hv)
  have HR7 : Hid (∀ v, Below W11.heap.size W11 v -> v.heap[g7]? = some (.cells PA 41 (0, 0))) := Lh fun v hv => HR7'.out v (HB911.out v hv)
  have HST : Hid (∀ v, Below W11.heap.size W11 v -> RowIs v os (bytesV SX) cs) := Lh fun v hv => HST'.out.later hv
  have HCSE : Hid (∀ v, Below W11.heap.size W11 v -> v.cell? ⟨g7, 1, none⟩ = some (.int .i64 p.se)) := Lh fun v hv => by unfold World.cell?; rw [HR7.out v hv, <- HPA.out]; rfl
  have HS3L : Hid (∀ v, Below W11.heap.size W11 v -> SeV A p (Da.jbad16 MK N p j) v v3) := Lh fun v hv => HS3.out.later hv
  have HS2L : Hid (∀ v, Below W11.heap.size W11 v -> SeV A p (Da.pbad16 MK N p i) v v2) := Lh fun v hv => HS2.out.later (Ks (show Below W10.heap.size W10 W11 from HBX.out) hv)
  have HS1L : Hid (∀ v, Below W11.heap.size W11 v -> SeV A p (Da.pbad16 MK N p i) v v1) := Lh fun v hv => HS1.out.later (Ks (Ks HBY.out HBX.out) hv)
  clear HQ8 HQ9 HQ10 HQ11
  have HQ11 : Hid (Below W11.heap.size W11 W11) := Lh (Below.refl _ _)
  by_cases hr0 : RB = 0
  ·subst hr0
   obtain ⟨hb0, ha0⟩ := Da.rdy16_zero HRB.out
   have HR0 := Lh (Da.right15 hb0)
   have HA0 := Lh ha0
   have HS0 : Hid (∀ k, Da.sen16 p k = k) := Lh fun k => by unfold Da.sen16; rw [if_pos hb0]
   have HEL : Hid (∀ v, Below W11.heap.size W11 v -> Els v (Da.keysL MK N) xs) := Lh fun v hv => HEL'.out rfl v (HB911.out v hv)
   have HE3 : Hid (v3 = errV A (Da.jbad16 MK N p j)) := Lh (sev_good HS3.out hb0)
   have he1 := sev_good HS1.out hb0
   have he2 := sev_good HS2.out hb0
   have hN := Da.n16_le2 HR0.out
   have HSTO : Hid (∀ v, Calls Tryz.prog 21 #[.agg PA] v fun e w' => e = .returned (.int .i64 ((Da.n16 p : Nat) : Int)) /\ Below v.heap.size v w') := Lh fun v => by
    have h := rstored15_any p HR0.out v
    rw [Da.n16_int HR0.out, HPA.out] at h
    exact h
   obtain ⟨n, hn⟩ : ∃ n, Da.n16 p = n := ⟨_, rfl⟩
   rw [hn] at hN HSTO
   have HN16 := Lh hn
   have HNL := Lh hN
   clear hb0 ha0 hn
   by_cases hi0 : i < 0
   ·have di : decide (i < 0) = true := decide_eq_true hi0
    have hpb : Da.pbad16 MK N p i = 1 := by
     unfold Da.pbad16 Da.ob11 Da.inO
     rw [HA0.out, if_pos rfl, show decide (0 <= i) = false from decide_eq_false (by omega)]
     rfl
    rw [hpb] at he1 he2
    have hv1 : V1 = 0 := by rw [<- HV1.out, hpb, if_neg (by rw [HS0.out 1]; decide)]
    have hv2 : V2 = 0 := by rw [<- HV2.out, hpb, if_neg (by rw [HS0.out 1]; decide)]
    subst hv1
    subst hv2
    rw [he1, he2]
    rw [show (((0 : Nat)) : Int) = 0 from rfl]
    clear he1 he2 hpb
    go_wp2_with fail
    refine (errV_num A 1 (by omega) W11 (HE.out.later (Ks HB1.out HB11.out))).mono ?_
    rintro e W12 ⟨rfl, hb⟩
    have HB12 := Lh (Ks HB11.out hb)
    have HQ12 := Lh (Ks HQ11.out hb)
    clear hb
    go_wp2_with fail
    refine (errV_num A 1 (by omega) W12 (HE.out.later (Ks HB1.out HB12.out))).mono ?_
    rintro e W13 ⟨rfl, hb⟩
    have HB13 := Lh (Ks HB12.out hb)
    have HQ13 := Lh (Ks HQ12.out hb)
    clear hb
    have hcse := HCSE.out W13 HQ13.out
    by_cases hj0 : j < 0
    ·have dj : decide (j < 0) = true := decide_eq_true hj0
     have hjb : Da.jbad16 MK N p j = 18 := by unfold Da.jbad16; rw [HA0.out, if_pos rfl, if_neg (by omega)]
     have he3 := HE3.out
     rw [hjb] at he3
     have hv3 : V3 = 0 := by rw [<- HV3.out, hjb, if_neg (by rw [HS0.out 18]; decide)]
     have hsx : SX = [] := by rw [<- HSX.out, hjb, if_neg (by rw [HS0.out 18]; decide)]
     subst hv3
     subst hsx
     rw [he3]
     rw [show ([] : List UInt8).length = 0 from rfl, show (((0 : Nat)) : Int) = 0 from rfl]
     clear he3 hjb
     go_wp2_with fail
     refine (errV_num A 18 (by omega) W13 (HE.out.later (Ks HB1.out HB13.out))).mono ?_
     rintro e W14 ⟨rfl, hb⟩
     have HB14 := Lh (Ks HB13.out hb)
     have HQ14 := Lh (Ks HQ13.out hb)
     clear hb
     go_wp2_with fail
     go_ret
     exact ⟨rfl, Ks HB1.out HB14.out⟩
    have dj : decide (j < 0) = false := decide_eq_false hj0
    by_cases hj1 : p.se <= j
    ·have dj2 : decide (j >= p.se) = true := decide_eq_true hj1
     have dj3 : decide (p.se <= j) = true := decide_eq_true hj1
     have hjb : Da.jbad16 MK N p j = 18 := by unfold Da.jbad16; rw [HA0.out, if_pos rfl, if_neg (by omega)]
     have he3 := HE3.out
     rw [hjb] at he3
     have hv3 : V3 = 0 := by rw [<- HV3.out, hjb, if_neg (by rw [HS0.out 18]; decide)]
     have hsx : SX = [] := by rw [<- HSX.out, hjb, if_neg (by rw [HS0.out 18]; decide)]
     subst hv3
     subst hsx
     rw [he3]
     rw [show ([] : List UInt8).length = 0 from rfl, show (((0 : Nat)) : Int) = 0 from rfl]
     clear he3 hjb
     go_wp2_with fail
     refine (errV_num A 18 (by omega) W13 (HE.out.later (Ks HB1.out HB13.out))).mono ?_
     rintro e W14 ⟨rfl, hb⟩
     have HB14 := Lh (Ks HB13.out hb)
     have HQ14 := Lh (Ks HQ13.out hb)
     clear hb
     go_wp2_with fail
     go_ret
     exact ⟨rfl, Ks HB1.out HB14.out⟩
    have dj2 : decide (j >= p.se) = false := decide_eq_false hj1
    have dj3 : decide (p.se <= j) = false := decide_eq_false hj1
    have hjb : Da.jbad16 MK N p j = 0 := by unfold Da.jbad16; rw [HA0.out, if_pos rfl, if_pos (by omega)]
    have he3 := HE3.out
    rw [hjb] at he3
    have hv3 : Da.jat16 MK N p j = V3 := by rw [<- HV3.out, hjb, if_pos (HS0.out 0)]
    have hsx : Da.tg16 (Da.key16 MK N 3) ((Da.jat16 MK N p j : Nat) : Int) (Da.sb (Da.key16 MK N 2) j) = SX := by rw [<- HSX.out, hjb, if_pos (HS0.out 0)]
    have hsn := rsentinel16_any MK N p HR0.out j (by omega) (by omega) xs W13 (HEL.out W13 HQ13.out) (HRD.out.later (Ks HB1.out HB13.out))
    rw [hsx, hv3, HXA.out, HPA.out] at hsn
    have HSN := Lh hsn
    rw [he3, errV_nil]
    clear he3 hjb hv3 hsx hsn
    go_upto_region 19 with fail
    apply wp_region_lit
    refine wpList_load_row rfl 47 (.tmp 8) rfl g8 rfl 47 XA (0, 0) _ (HR8.out W13 HQ13.out) k5_under rfl HXI.out ?_
    refine wpList_load_row rfl 41 (.tmp 7) rfl g7 rfl 41 PA (0, 0) _ (HR7.out W13 HQ13.out) Tryz.underlying41 rfl HPI.out ?_
    (refine wpList_plain rfl (fun K hK => ?_); go_simp; refine hK _ _ ?_; clear hK K)
    (refine wpList_plain rfl (fun K hK => ?_); go_simp)
    refine HSN.out.mono ?_
    rintro e W14 ⟨r, rfl, hr, hb⟩
    refine hK _ _ ?_
    clear hK K HSN
    have HB14 := Lh (Ks HB13.out hb)
    have HQ14 := Lh (Ks HQ13.out hb)
    clear hb
    obtain ⟨orr, crr, rfl, hrr⟩ := hr
    have hcv1 : (convert 22 9 (.slice orr SX.length crr)).run Tryz.prog W14 = .ok (.string ⟨SX.toArray⟩) W14 := run_string hrr Tryz.underlying22 Tryz.underlying5 Tryz.underlying9 _
    have hcv2 : (convert 22 9 (.slice os SX.length cs)).run Tryz.prog W14 = .ok (.string ⟨SX.toArray⟩) W14 := run_string (HST.out W14 HQ14.out) Tryz.underlying22 Tryz.underlying5 Tryz.underlying9 _
    obtain ⟨SS, hSS⟩ : ∃ SS : ByteArray, (⟨SX.toArray⟩ : ByteArray) = SS := ⟨_, rfl⟩
    obtain ⟨ls, hls⟩ : ∃ ls, SX.length = ls := ⟨_, rfl⟩
    rw [hSS] at hcv1 hcv2
    rw [hls] at hcv1 hcv2 ⊢
    have hes := str_same16 SS
    have hen := eql_nil16
    clear hSS hls hrr
    iterate 5 (refine wpList_plain rfl (fun K hK => ?_); go_simp; refine hK _ _ ?_; clear hK K)
    go_wp2_with fail
    go_ret
    exact ⟨rfl, Ks HB1.out HB14.out⟩
   have di : decide (i < 0) = false := decide_eq_false hi0
   by_cases hin : (n : Int) <= i
   ·have di2 : decide (i >= (n : Int)) = true := decide_eq_true hin
    have di3 : decide ((n : Int) <= i) = true := decide_eq_true hin
    have hpb : Da.pbad16 MK N p i = 1 := by
     unfold Da.pbad16 Da.ob11 Da.inO
     rw [HA0.out, if_pos rfl, HN16.out, show decide (i < (n : Int)) = false from decide_eq_false (by omega), Bool.and_false]
     rfl
    rw [hpb] at he1 he2
    have hv1 : V1 = 0 := by rw [<- HV1.out, hpb, if_neg (by rw [HS0.out 1]; decide)]
    have hv2 : V2 = 0 := by rw [<- HV2.out, hpb, if_neg (by rw [HS0.out 1]; decide)]
    subst hv1
    subst hv2
    rw [he1, he2]
    rw [show (((0 : Nat)) : Int) = 0 from rfl]
    clear he1 he2 hpb
    go_upto_region 12 with fail
    apply wp_region_lit
    iterate 3 (refine wpList_plain rfl (fun K hK => ?_); go_simp; refine hK _ _ ?_; clear hK K)
    (refine BigFrame.wpList_want (by rfl) (fun K hK => ?_); go_simp; refine hK _ _ ?_; clear hK K)
    refine BigFrame.wpList_want (by rfl) (fun K hK => wp_load_row 41 (.tmp 7) rfl g7 rfl 41 PA (0, 0) _ (HR7.out W11 HQ11.out) Tryz.underlying41 rfl HPI.out (hK _ _ ?_))
    clear hK K
    (refine BigFrame.wpList_want (by rfl) (fun K hK => ?_); go_simp)
    refine (HSTO.out W11).mono ?_
    rintro e W12 ⟨rfl, hb⟩
    refine hK _ _ ?_
    clear hK K
    have HB12 := Lh (Ks HB11.out hb)
    have HQ12 := Lh (Ks HQ11.out hb)
    clear hb
    go_wp2_with fail
    refine (errV_num A 1 (by omega) W12 (HE.out.later (Ks HB1.out HB12.out))).mono ?_
    rintro e W13 ⟨rfl, hb⟩
    have HB13 := Lh (Ks HB12.out hb)
    have HQ13 := Lh (Ks HQ12.out hb)
    clear hb
    go_wp2_with fail
    refine (errV_num A 1 (by omega) W13 (HE.out.later (Ks HB1.out HB13.out))).mono ?_
    rintro e W14 ⟨rfl, hb⟩
    have HB14 := Lh (Ks HB13.out hb)
    have HQ14 := Lh (Ks HQ13.out hb)
    clear hb
    have hcse := HCSE.out W14 HQ14.out
    by_cases hj0 : j < 0
    ·have dj : decide (j < 0) = true := decide_eq_true hj0
     have hjb : Da.jbad16 MK N p j = 18 := by unfold Da.jbad16; rw [HA0.out, if_pos rfl, if_neg (by omega)]
     have he3 := HE3.out
     rw [hjb] at he3
     have hv3 : V3 = 0 := by rw [<- HV3.out, hjb, if_neg (by rw [HS0.out 18]; decide)]
     have hsx : SX = [] := by rw [<- HSX.out, hjb, if_neg (by rw [HS0.out 18]; decide)]
     subst hv3
     subst hsx
     rw [he3]
     rw [show ([] : List UInt8).length = 0 from rfl, show (((0 : Nat)) : Int) = 0 from rfl]
     clear he3 hjb
     go_wp2_with fail
     refine (errV_num A 18 (by omega) W14 (HE.out.later (Ks HB1.out HB14.out))).mono ?_
     rintro e W15 ⟨rfl, hb⟩
     have HB15 := Lh (Ks HB14.out hb)
     have HQ15 := Lh (Ks HQ14.out hb)
     clear hb
     go_wp2_with fail
     go_ret
     exact ⟨rfl, Ks HB1.out HB15.out⟩
    have dj : decide (j < 0) = false := decide_eq_false hj0
    by_cases hj1 : p.se <= j
    ·have dj2 : decide (j >= p.se) = true := decide_eq_true hj1
     have dj3 : decide (p.se <= j) = true := decide_eq_true hj1
     have hjb : Da.jbad16 MK N p j = 18 := by unfold Da.jbad16; rw [HA0.out, if_pos rfl, if_neg (by omega)]
     have he3 := HE3.out
     rw [hjb] at he3
     have hv3 : V3 = 0 := by rw [<- HV3.out, hjb, if_neg (by rw [HS0.out 18]; decide)]
     have hsx : SX = [] := by rw [<- HSX.out, hjb, if_neg (by rw [HS0.out 18]; decide)]
     subst hv3
     subst hsx
     rw [he3]
     rw [show ([] : List UInt8).length = 0 from rfl, show (((0 : Nat)) : Int) = 0 from rfl]
     clear he3 hjb
     go_wp2_with fail
     refine (errV_num A 18 (by omega) W14 (HE.out.later (Ks HB1.out HB14.out))).mono ?_
     rintro e W15 ⟨rfl, hb⟩
     have HB15 := Lh (Ks HB14.out hb)
     have HQ15 := Lh (Ks HQ14.out hb)
     clear hb
     go_wp2_with fail
     go_ret
     exact ⟨rfl, Ks HB1.out HB15.out⟩
    have dj2 : decide (j >= p.se) = false := decide_eq_false hj1
    have dj3 : decide (p.se <= j) = false := decide_eq_false hj1
    have hjb : Da.jbad16 MK N p j = 0 := by unfold Da.jbad16; rw [HA0.out, if_pos rfl, if_pos (by omega)]
    have he3 := HE3.out
    rw [hjb] at he3
    have hv3 : Da.jat16 MK N p j = V3 := by rw [<- HV3.out, hjb, if_pos (HS0.out 0)]
    have hsx : Da.tg16 (Da.key16 MK N 3) ((Da.jat16 MK N p j : Nat) : Int) (Da.sb (Da.key16 MK N 2) j) = SX := by rw [<- HSX.out, hjb, if_pos (HS0.out 0)]
    have hsn := rsentinel16_any MK N p HR0.out j (by omega) (by omega) xs W14 (HEL.out W14 HQ14.out) (HRD.out.later (Ks HB1.out HB14.out))
    rw [hsx, hv3, HXA.out, HPA.out] at hsn
    have HSN := Lh hsn
    rw [he3, errV_nil]
    clear he3 hjb hv3 hsx hsn
    go_upto_region 19 with fail
    apply wp_region_lit
    refine wpList_load_row rfl 47 (.tmp 8) rfl g8 rfl 47 XA (0, 0) _ (HR8.out W14 HQ14.out) k5_under rfl HXI.out ?_
    refine wpList_load_row rfl 41 (.tmp 7) rfl g7 rfl 41 PA (0, 0) _ (HR7.out W14 HQ14.out) Tryz.underlying41 rfl HPI.out ?_
    (refine wpList_plain rfl (fun K hK => ?_); go_simp; refine hK _ _ ?_; clear hK K)
    (refine wpList_plain rfl (fun K hK => ?_); go_simp)
    refine HSN.out.mono ?_
    rintro e W15 ⟨r, rfl, hr, hb⟩
    refine hK _ _ ?_
    clear hK K HSN
    have HB15 := Lh (Ks HB14.out hb)
    have HQ15 := Lh (Ks HQ14.out hb)
    clear hb
    obtain ⟨orr, crr, rfl, hrr⟩ := hr
    have hcv1 : (convert 22 9 (.slice orr SX.length crr)).run Tryz.prog W15 = .ok (.string ⟨SX.toArray⟩) W15 := run_string hrr Tryz.underlying22 Tryz.underlying5 Tryz.underlying9 _
    have hcv2 : (convert 22 9 (.slice os SX.length cs)).run Tryz.prog W15 = .ok (.string ⟨SX.toArray⟩) W15 := run_string (HST.out W15 HQ15.out) Tryz.underlying22 Tryz.underlying5 Tryz.underlying9 _
    obtain ⟨SS, hSS⟩ : ∃ SS : ByteArray, (⟨SX.toArray⟩ : ByteArray) = SS := ⟨_, rfl⟩
    obtain ⟨ls, hls⟩ : ∃ ls, SX.length = ls := ⟨_, rfl⟩
    rw [hSS] at hcv1 hcv2
    rw [hls] at hcv1 hcv2 ⊢
    have hes := str_same16 SS
    have hen := eql_nil16
    clear hSS hls hrr
    iterate 5 (refine wpList_plain rfl (fun K hK => ?_); go_simp; refine hK _ _ ?_; clear hK K)
    go_wp2_with fail
    go_ret
    exact ⟨rfl, Ks HB1.out HB15.out⟩
   obtain ⟨I, hI⟩ : ∃ I : Nat, i = (I : Int) := ⟨i.toNat, by omega⟩
   subst hI
   have hIn : I < n := by omega
   have di2 : decide ((I : Int) >= (n : Int)) = false := decide_eq_false (by omega)
   have di3 : decide (n <= I) = false := decide_eq_false (by omega)
   have di4 : decide ((n : Int) <= (I : Int)) = false := decide_eq_false (by omega)
   have hpb : Da.pbad16 MK N p (I : Int) = 0 := by
    unfold Da.pbad16 Da.ob11 Da.inO
    rw [HA0.out, if_pos rfl, HN16.out, show decide ((I : Int) < (n : Int)) = true from decide_eq_true (by omega), show decide (0 <= (I : Int)) = true from decide_eq_true (by omega)]
    rfl
   rw [hpb] at he1 he2
   have hv1 : Da.to16 MK N p I = V1 := by rw [<- HV1.out, hpb, if_pos (HS0.out 0)]; rfl
   have hv2 : Da.fr16 MK N p I = V2 := by rw [<- HV2.out, hpb, if_pos (HS0.out 0)]; rfl
   have hb2n : V2 < n := by rw [<- hv2, <- HN16.out]; exact Da.fr16_lt (by rw [HN16.out]; omega) (by rw [HN16.out]; exact hIn)
   have hback : Da.to16 MK N p V2 = I := by rw [<- hv2]; exact Da.to_fr16 (by rw [HN16.out]; omega) (by rw [HN16.out]; exact hIn)
   have HPL1 : Hid (∀ v, Below W11.heap.size W11 v -> Calls Tryz.prog 22 #[.agg XA, .agg PA, .int .i64 (I : Int)] v fun e w' => e = .returned (.int .i64 (V1 : Int)) /\ Below v.heap.size v w') := Lh fun v hv => by
    have h := rplace16_any MK N p HR0.out I (by rw [HN16.out]; exact hIn) xs v (HEL.out v hv) (HRD.out.later (Ks HB1.out (Ks HB11.out hv)))
    rw [HXA.out, HPA.out, hv1] at h
    exact h
   have HPL2 : Hid (∀ v, Below W11.heap.size W11 v -> Calls Tryz.prog 22 #[.agg XA, .agg PA, .int .i64 (V2 : Int)] v fun e w' => e = .returned (.int .i64 (I : Int)) /\ Below v.heap.size v w') := Lh fun v hv => by
    have h := rplace16_any MK N p HR0.out V2 (by rw [HN16.out]; exact hb2n) xs v (HEL.out v hv) (HRD.out.later (Ks HB1.out (Ks HB11.out hv)))
    rw [HXA.out, HPA.out, hback] at h
    exact h
   have dv1 : decide ((V2 : Int) < 0) = false := decide_eq_false (by omega)
   have dv2 : decide ((V2 : Int) >= (n : Int)) = false := decide_eq_false (by omega)
   have dv3 : decide (n <= V2) = false := decide_eq_false (by omega)
   have hqn := neq_nil
   rw [he1, he2, errV_nil]
   clear he1 he2 hpb hv1 hv2 hback
   go_upto_region 12 with fail
   apply wp_region_lit
   iterate 3 (refine wpList_plain rfl (fun K hK => ?_); go_simp; refine hK _ _ ?_; clear hK K)
   (refine BigFrame.wpList_want (by rfl) (fun K hK => ?_); go_simp; refine hK _ _ ?_; clear hK K)
   refine BigFrame.wpList_want (by rfl) (fun K hK => wp_load_row 41 (.tmp 7) rfl g7 rfl 41 PA (0, 0) _ (HR7.out W11 HQ11.out) Tryz.underlying41 rfl HPI.out (hK _ _ ?_))
   clear hK K
   (refine BigFrame.wpList_want (by rfl) (fun K hK => ?_); go_simp)
   refine (HSTO.out W11).mono ?_
   rintro e W12 ⟨rfl, hb⟩
   refine hK _ _ ?_
   clear hK K
   have HB12 := Lh (Ks HB11.out hb)
   have HQ12 := Lh (Ks HQ11.out hb)
   clear hb
   go_upto_region 15 with fail
   apply wp_region_lit
   iterate 3 (refine wpList_plain rfl (fun K hK => ?_); go_simp; refine hK _ _ ?_; clear hK K)
   iterate 2 (refine BigFrame.wpList_want (by rfl) (fun K hK => ?_); go_simp; refine hK _ _ ?_; clear hK K)
   iterate 2 (refine wpList_plain rfl (fun K hK => ?_); go_simp; refine hK _ _ ?_; clear hK K)
   (refine BigFrame.wpList_want (by rfl) (fun K hK => ?_); go_simp; refine hK _ _ ?_; clear hK K)
   refine BigFrame.wpList_want (by rfl) (fun K hK => wp_load_row 47 (.tmp 8) rfl g8 rfl 47 XA (0, 0) _ (HR8.out W12 HQ12.out) k5_under rfl HXI.out (hK _ _ ?_))
   clear hK K
   refine BigFrame.wpList_want (by rfl) (fun K hK => wp_load_row 41 (.tmp 7) rfl g7 rfl 41 PA (0, 0) _ (HR7.out W12 HQ12.out) Tryz.underlying41 rfl HPI.out (hK _ _ ?_))
   clear hK K
   (refine BigFrame.wpList_want (by rfl) (fun K hK => ?_); go_simp; refine hK _ _ ?_; clear hK K)
   (refine BigFrame.wpList_want (by rfl) (fun K hK => ?_); go_simp)
   refine (HPL1.out W12 HQ12.out).mono ?_
   rintro e W13 ⟨rfl, hb⟩
   refine hK _ _ ?_
   clear hK K
   have HB13 := Lh (Ks HB12.out hb)
   have HQ13 := Lh (Ks HQ12.out hb)
   clear hb
   (refine BigFrame.wpList_want (by rfl) (fun K hK => ?_); go_simp; refine hK _ _ ?_; clear hK K)
   iterate 2 (refine wpList_plain rfl (fun K hK => ?_); go_simp; refine hK _ _ ?_; clear hK K)
   iterate 2 (refine BigFrame.wpList_want (by rfl) (fun K hK => ?_); go_simp; refine hK _ _ ?_; clear hK K)
   iterate 2 (refine wpList_plain rfl (fun K hK => ?_); go_simp; refine hK _ _ ?_; clear hK K)
   (refine BigFrame.wpList_want (by rfl) (fun K hK => ?_); go_simp; refine hK _ _ ?_; clear hK K)
   refine BigFrame.wpList_want (by rfl) (fun K hK => wp_load_row 41 (.tmp 7) rfl g7 rfl 41 PA (0, 0) _ (HR7.out W13 HQ13.out) Tryz.underlying41 rfl HPI.out (hK _ _ ?_))
   clear hK K
   (refine BigFrame.wpList_want (by rfl) (fun K hK => ?_); go_simp)
   refine (HSTO.out W13).mono ?_
   rintro e W14 ⟨rfl, hb⟩
   refine hK _ _ ?_
   clear hK K
   have HB14 := Lh (Ks HB13.out hb)
   have HQ14 := Lh (Ks HQ13.out hb)
   clear hb
   (refine BigFrame.wpList_want (by rfl) (fun K hK => ?_); go_simp; refine hK _ _ ?_; clear hK K)
   iterate 2 (refine wpList_plain rfl (fun K hK => ?_); go_simp; refine hK _ _ ?_; clear hK K)
   refine BigFrame.wpList_want (by rfl) (fun K hK => wp_load_row 47 (.tmp 8) rfl g8 rfl 47 XA (0, 0) _ (HR8.out W14 HQ14.out) k5_under rfl HXI.out (hK _ _ ?_))
   clear hK K
   refine BigFrame.wpList_want (by rfl) (fun K hK => wp_load_row 41 (.tmp 7) rfl g7 rfl 41 PA (0, 0) _ (HR7.out W14 HQ14.out) Tryz.underlying41 rfl HPI.out (hK _ _ ?_))
   clear hK K
   (refine BigFrame.wpList_want (by rfl) (fun K hK => ?_); go_simp; refine hK _ _ ?_; clear hK K)
   (refine BigFrame.wpList_want (by rfl) (fun K hK => ?_); go_simp)
   refine (HPL2.out W14 HQ14.out).mono ?_
   rintro e W15 ⟨rfl, hb⟩
   refine hK _ _ ?_
   clear hK K
   have HB15 := Lh (Ks HB14.out hb)
   have HQ15 := Lh (Ks HQ14.out hb)
   clear hb
   iterate 2 (refine BigFrame.wpList_want (by rfl) (fun K hK => ?_); go_simp; refine hK _ _ ?_; clear hK K)
   (refine wpList_plain rfl (fun K hK => ?_); go_simp; refine hK _ _ ?_; clear hK K)
   have hcse := HCSE.out W15 HQ15.out
   by_cases hj0 : j < 0
   ·have dj : decide (j < 0) = true := decide_eq_true hj0
    have hjb : Da.jbad16 MK N p j = 18 := by unfold Da.jbad16; rw [HA0.out, if_pos rfl, if_neg (by omega)]
    have he3 := HE3.out
    rw [hjb] at he3
    have hv3 : V3 = 0 := by rw [<- HV3.out, hjb, if_neg (by rw [HS0.out 18]; decide)]
    have hsx : SX = [] := by rw [<- HSX.out, hjb, if_neg (by rw [HS0.out 18]; decide)]
    subst hv3
    subst hsx
    rw [he3]
    rw [show ([] : List UInt8).length = 0 from rfl, show (((0 : Nat)) : Int) = 0 from rfl]
    clear he3 hjb
    go_wp2_with fail
    refine (errV_num A 18 (by omega) W15 (HE.out.later (Ks HB1.out HB15.out))).mono ?_
    rintro e W16 ⟨rfl, hb⟩
    have HB16 := Lh (Ks HB15.out hb)
    have HQ16 := Lh (Ks HQ15.out hb)
    clear hb
    go_wp2_with fail
    go_ret
    exact ⟨rfl, Ks HB1.out HB16.out⟩
   have dj : decide (j < 0) = false := decide_eq_false hj0
   by_cases hj1 : p.se <= j
   ·have dj2 : decide (j >= p.se) = true := decide_eq_true hj1
    have dj3 : decide (p.se <= j) = true := decide_eq_true hj1
    have hjb : Da.jbad16 MK N p j = 18 := by unfold Da.jbad16; rw [HA0.out, if_pos rfl, if_neg (by omega)]
    have he3 := HE3.out
    rw [hjb] at he3
    have hv3 : V3 = 0 := by rw [<- HV3.out, hjb, if_neg (by rw [HS0.out 18]; decide)]
    have hsx : SX = [] := by rw [<- HSX.out, hjb, if_neg (by rw [HS0.out 18]; decide)]
    subst hv3
    subst hsx
    rw [he3]
    rw [show ([] : List UInt8).length = 0 from rfl, show (((0 : Nat)) : Int) = 0 from rfl]
    clear he3 hjb
    go_wp2_with fail
    refine (errV_num A 18 (by omega) W15 (HE.out.later (Ks HB1.out HB15.out))).mono ?_
    rintro e W16 ⟨rfl, hb⟩
    have HB16 := Lh (Ks HB15.out hb)
    have HQ16 := Lh (Ks HQ15.out hb)
    clear hb
    go_wp2_with fail
    go_ret
    exact ⟨rfl, Ks HB1.out HB16.out⟩
   have dj2 : decide (j >= p.se) = false := decide_eq_false hj1
   have dj3 : decide (p.se <= j) = false := decide_eq_false hj1
   have hjb : Da.jbad16 MK N p j = 0 := by unfold Da.jbad16; rw [HA0.out, if_pos rfl, if_pos (by omega)]
   have he3 := HE3.out
   rw [hjb] at he3
   have hv3 : Da.jat16 MK N p j = V3 := by rw [<- HV3.out, hjb, if_pos (HS0.out 0)]
   have hsx : Da.tg16 (Da.key16 MK N 3) ((Da.jat16 MK N p j : Nat) : Int) (Da.sb (Da.key16 MK N 2) j) = SX := by rw [<- HSX.out, hjb, if_pos (HS0.out 0)]
   have hsn := rsentinel16_any MK N p HR0.out j (by omega) (by omega) xs W15 (HEL.out W15 HQ15.out) (HRD.out.later (Ks HB1.out HB15.out))
   rw [hsx, hv3, HXA.out, HPA.out] at hsn
   have HSN := Lh hsn
   rw [he3, errV_nil]
   clear he3 hjb hv3 hsx hsn
   go_upto_region 19 with fail
   apply wp_region_lit
   refine wpList_load_row rfl 47 (.tmp 8) rfl g8 rfl 47 XA (0, 0) _ (HR8.out W15 HQ15.out) k5_under rfl HXI.out ?_
   refine wpList_load_row rfl 41 (.tmp 7) rfl g7 rfl 41 PA (0, 0) _ (HR7.out W15 HQ15.out) Tryz.underlying41 rfl HPI.out ?_
   (refine wpList_plain rfl (fun K hK => ?_); go_simp; refine hK _ _ ?_; clear hK K)
   (refine wpList_plain rfl (fun K hK => ?_); go_simp)
   refine HSN.out.mono ?_
   rintro e W16 ⟨r, rfl, hr, hb⟩
   refine hK _ _ ?_
   clear hK K HSN
   have HB16 := Lh (Ks HB15.out hb)
   have HQ16 := Lh (Ks HQ15.out hb)
   clear hb
   obtain ⟨orr, crr, rfl, hrr⟩ := hr
   have hcv1 : (convert 22 9 (.slice orr SX.length crr)).run Tryz.prog W16 = .ok (.string ⟨SX.toArray⟩) W16 := run_string hrr Tryz.underlying22 Tryz.underlying5 Tryz.underlying9 _
   have hcv2 : (convert 22 9 (.slice os SX.length cs)).run Tryz.prog W16 = .ok (.string ⟨SX.toArray⟩) W16 := run_string (HST.out W16 HQ16.out) Tryz.underlying22 Tryz.underlying5 Tryz.underlying9 _
   obtain ⟨SS, hSS⟩ : ∃ SS : ByteArray, (⟨SX.toArray⟩ : ByteArray) = SS := ⟨_, rfl⟩
   obtain ⟨ls, hls⟩ : ∃ ls, SX.length = ls := ⟨_, rfl⟩
   rw [hSS] at hcv1 hcv2
   rw [hls] at hcv1 hcv2 ⊢
   have hes := str_same16 SS
   have hen := eql_nil16
   clear hSS hls hrr
   iterate 5 (refine wpList_plain rfl (fun K hK => ?_); go_simp; refine hK _ _ ?_; clear hK K)
   go_wp2_with fail
   go_ret
   exact ⟨rfl, Ks HB1.out HB16.out⟩
  ·have hn1 : ¬ (RB : Int) = 0 := by omega
   have hn2 : ((RB : Int) == 0) = false := beq_false_of_ne hn1
   have hn3 : ((RB : Int) != 0) = true := by rw [bne_iff_ne]; exact hn1
   have hrn : Da.rdy16 MK N p ≠ 0 := by rw [HRB.out]; exact hr0
   have s1 := Da.sen16_pb i hrn
   have s3 := Da.sen16_jb j hrn
   rw [HRB.out] at s1 s3
   have hv1 : V1 = 0 := by rw [<- HV1.out, s1, if_neg hr0]
   have hv2 : V2 = 0 := by rw [<- HV2.out, s1, if_neg hr0]
   have hv3 : V3 = 0 := by rw [<- HV3.out, s3, if_neg hr0]
   have hsx : SX = [] := by rw [<- HSX.out, s3, if_neg hr0]
   have N1 : Hid (∀ v, Below W11.heap.size W11 v -> Calls Tryz.prog 12 #[v1] v fun e w' => e = .returned (.int .i64 (RB : Int)) /\ Below v.heap.size v w') := Lh fun v hv => by
    have h := sev_num HU.out A p (Da.pbad16 MK N p i) (Da.pbad16_le _ _ _ _) v1 v (HE.out.later (Ks HB1.out (Ks HB11.out hv))) (HS1L.out v hv)
    rw [s1] at h
    exact h
   have N2 : Hid (∀ v, Below W11.heap.size W11 v -> Calls Tryz.prog 12 #[v2] v fun e w' => e = .returned (.int .i64 (RB : Int)) /\ Below v.heap.size v w') := Lh fun v hv => by
    have h := sev_num HU.out A p (Da.pbad16 MK N p i) (Da.pbad16_le _ _ _ _) v2 v (HE.out.later (Ks HB1.out (Ks HB11.out hv))) (HS2L.out v hv)
    rw [s1] at h
    exact h
   have N3 : Hid (∀ v, Below W11.heap.size W11 v -> Calls Tryz.prog 12 #[v3] v fun e w' => e = .returned (.int .i64 (RB : Int)) /\ Below v.heap.size v w') := Lh fun v hv => by
    have h := sev_num HU.out A p (Da.jbad16 MK N p j) (Da.jbad16_le _ _ _ _) v3 v (HE.out.later (Ks HB1.out (Ks HB11.out hv))) (HS3L.out v hv)
    rw [s3] at h
    exact h
   subst hv1
   subst hv2
   subst hv3
   subst hsx
   rw [show ([] : List UInt8).length = 0 from rfl, show (((0 : Nat)) : Int) = 0 from rfl]
   clear s1 s3 hrn
   go_wp2_with fail
   refine (N1.out W11 HQ11.out).mono ?_
   rintro e W12 ⟨rfl, hb⟩
   have HB12 := Lh (Ks HB11.out hb)
   have HQ12 := Lh (Ks HQ11.out hb)
   clear hb
   go_wp2_with fail
   refine (N2.out W12 HQ12.out).mono ?_
   rintro e W13 ⟨rfl, hb⟩
   have HB13 := Lh (Ks HB12.out hb)
   have HQ13 := Lh (Ks HQ12.out hb)
   clear hb
   go_wp2_with fail
   refine (N3.out W13 HQ13.out).mono ?_
   rintro e W14 ⟨rfl, hb⟩
   have HB14 := Lh (Ks HB13.out hb)
   have HQ14 := Lh (Ks HQ13.out hb)
   clear hb
   go_wp2_with fail
   go_ret
   exact ⟨rfl, Ks HB1.out HB14.out⟩
theorem sp16_any (A : Nat -> Addr) (hC : SlC A) (U : Er.UnwrapOk)
    (MK F : List UInt8) (ok oF : Option Addr) (ck cF : Nat) (N i j : Int) (p : Pm15) (w : World) (hK : RowIs w ok (bytesV MK) ck) (hF : RowIs w oF (bytesV F) cF) (hN : in64 N) (hi : in64 i) (hj : in64 j) (hok : p.ok) (hV : Cds w) (hR : Rds w) (hE : Er.Errs w A) :
    Calls Tryz.prog 4 #[.agg (mdA (.slice ok MK.length ck) N (.slice oF F.length cF) p), .int .i64 i, .int .i64 j] w fun e w' => e = .returned (.bool true) /\ Below w.heap.size w w' :=
 sp16_of _ rfl k5_zero A hC U MK F ok oF ck cF N i j p w hK hF hN hi hj hok hV hR hE
end Go.Proofs.YtffheegeaghfjaaGreatDoor
