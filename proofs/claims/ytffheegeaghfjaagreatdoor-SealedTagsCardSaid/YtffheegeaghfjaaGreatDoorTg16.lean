/- Tg16 -/
import Derived.Test.YtffheegeaghfjaaGreatDoorYHPT
import Derived.Test.YtffheegeaghfjaaGreatDoorYPST
import Derived.Test.YtffheegeaghfjaaGreatDoorYHT
import Derived.Test.YtffheegeaghfjaaGreatDoorYT
import Derived.Test.YtffheegeaghfjaaGreatDoorRw16
import Derived.BigQuiet
set_option linter.unusedVariables false
set_option linter.unusedSimpArgs false
set_option maxRecDepth 100000
set_option maxHeartbeats 8000000
namespace Go.Proofs.YtffheegeaghfjaaGreatDoor
open Go.RowKit
theorem md16_info : (Tryz.prog.info? 26).map (·.size) = some 9 := by kernel_rfl
theorem str_neq16 (a : ByteArray) (W : World) : (binOp .neq 9 (.string a) (.string a)).run Tryz.prog W = .ok (.bool false) W := by
 have hu := Tryz.underlying9
 go_simp
def TgsG (KT T B : List UInt8) (n : Int) (g7 : Nat) (x3 : Value) (i : Nat) (x : Value) (v : World) : Prop :=
 match i with
 | 0 => (x) = .nilIface
 | 3 | 9 => RowV (T) (x) v
 | 4 | 10 => (x) = .string ⟨(T).toArray⟩
 | 5 => (x) = .pointer (some ⟨g7, 3, none⟩)
 | 6 => RowV (KT) (x) v
 | 7 => (x) = .int .i64 n
 | 8 => RowV (B) (x) v
 | _ => (x) = .bool true
theorem TgsG.later {KT T B : List UInt8} {n : Int} {g7 : Nat} {x3 : Value} (i : Nat) (x : Value) (v v' : World) (h : TgsG KT T B n g7 x3 i x v) (hb : Below v.heap.size v v') : TgsG KT T B n g7 x3 i x v' := by
 unfold TgsG at *
 split at h <;> first | exact h | exact h.later hb
theorem tgs16_of (Z : Array Value) (hZ : Z = nil5.toArray) (hzs : ∀ w, Sem.run Tryz.prog (zeroValue 47) w = .ok (.agg Z) w) (A : Nat -> Addr) (hC : SlC A)
    (MK F B : List UInt8) (ok oF oB : Option Addr) (ck cF cB : Nat) (N n : Int) (p : Pm15) (w : World) (hK : RowIs w ok (bytesV MK) ck) (hF : RowIs w oF (bytesV F) cF) (hB : RowIs w oB (bytesV B) cB) (hN : in64 N) (hn : in64 n) (hok : p.ok) (hV : Cds w) (hR : Rds w) (hE : Er.Errs w A) :
    Calls Tryz.prog 5 #[.agg (mdA (.slice ok MK.length ck) N (.slice oF F.length cF) p), .int .i64 n, .slice oB B.length cB] w fun e w' => e = .returned (.bool true) /\ Below w.heap.size w w' := by
 obtain ⟨g, hg⟩ : ∃ g, w.heap.size = g := ⟨_, rfl⟩
 obtain ⟨MA, hMA⟩ : ∃ MA, mdA (.slice ok MK.length ck) N (.slice oF F.length cF) p = MA := ⟨_, rfl⟩
 have hms : (Tryz.prog.info? 26).map (·.size) = some MA.size := by rw [md16_info, <- hMA]; rfl
 obtain ⟨W1, hW1⟩ : ∃ W1, w.alloc (.cells MA 26) = W1 := ⟨_, rfl⟩
 have hM1 : W1.heap[g]? = some (.cells MA 26 (0, 0)) := by rw [<- hW1, <- hg]; exact World.alloc_heap_new w _
 have hb1 : Below w.heap.size w W1 := by rw [<- hW1]; exact new12 _ _
 have hgl : g < W1.heap.size := (aE.1 hM1).1
 have HM : Hid (∀ v, Below W1.heap.size W1 v -> v.heap[g]? = some (.cells MA 26 (0, 0))) := Lh fun v hv => (hv.block g hgl).trans hM1
 have HC0 : Hid (∀ v, Below W1.heap.size W1 v -> v.cell? ⟨g, 0, none⟩ = some (.slice ok MK.length ck)) := Lh fun v hv => by unfold World.cell?; rw [(hv.block g hgl).trans hM1, <- hMA]; rfl
 have HC1 : Hid (∀ v, Below W1.heap.size W1 v -> v.cell? ⟨g, 1, none⟩ = some (.int .i64 N)) := Lh fun v hv => by unfold World.cell?; rw [(hv.block g hgl).trans hM1, <- hMA]; rfl
 have HLG : Hid (∀ v, Calls Tryz.prog 8 #[.agg MA] v fun e w' => e = .returned (.bool (Da.lng16 MK F p)) /\ Below v.heap.size v w') := Lh fun v => by rw [<- hMA]; exact long16_any MK F ok oF ck cF N p v
 have HAL := Lh (al16_any A hC.sl W1 (hV.later hb1) (hE.e16.later hb1))
 have HMS := Lh hms
 have HB1 := Lh hb1
 have HG := Lh hg
 have HW1 := Lh hW1
 have HC := Lh hC
 have HKR := Lh hK
 have HBR := Lh hB
 have HNK := Lh hN
 have HNN := Lh hn
 have HV := Lh hV
 have HRD := Lh hR
 have HE := Lh hE
 have HZ := Lh hZ
 rw [hMA]
 have hcapB := hB.cap
 have hleB := hB.le
 rw [bytesV_length] at hleB
 unfold maxLen at hcapB
 clear hg hMA hms hW1 hM1 hb1 hgl hC hK hF hB hN hn hok hV hR hE hZ
 go_enter Tryz.func5, Tryz.ntmps5
 go_upto_region 1 with fail
 rw [HW1.out, HG.out]
 go_wp2_with fail
 refine HAL.out.mono ?_
 rintro e W2 ⟨rfl, hb2⟩
 have HB2 := Lh hb2
 clear hb2 HAL
 go_upto_region 3 with fail
 apply wp_region_lit
 refine wpList_load_row rfl 26 (.tmp 3) rfl g rfl 26 MA (0, 0) _ (HM.out W2 HB2.out) Tryz.underlying26 rfl HMS.out ?_
 (refine wpList_plain rfl (fun K hK => ?_); go_simp)
 refine (HLG.out W2).mono ?_
 rintro e W3 ⟨rfl, hb3⟩
 refine hK _ _ ?_
 clear hK K
 have HB3 := Lh (Ks HB2.out hb3)
 clear hb3
 obtain ⟨lg, hlg⟩ : ∃ lg, Da.lng16 MK F p = lg := ⟨_, rfl⟩
 rw [hlg]
 cases lg with
 | true =>
  clear hlg
  go_wp2_with fail
  go_ret
  exact ⟨rfl, Ks HB1.out HB3.out⟩
 | false =>
  have hKl : MK.length <= 100 /\ F.length <= 400 := by
   unfold Da.lng16 at hlg
   simp only [Bool.or_eq_false_iff, decide_eq_false_iff_not] at hlg
   omega
  have HKL := Lh hKl.1
  clear hlg hKl
  by_cases h60 : 60 < B.length
  ·have d1 : decide ((B.length : Int) > 60) = true := decide_eq_true (by omega)
   have d1' : decide (60 < B.length) = true := decide_eq_true h60
   go_wp2_with fail
   go_ret
   exact ⟨rfl, Ks HB1.out HB3.out⟩
  have d1 : decide ((B.length : Int) > 60) = false := decide_eq_false (by omega)
  have d1' : decide (60 < B.length) = false := decide_eq_false h60
  have HB60 : Hid (B.length <= 60) := Lh (by omega)
  go_upto_region 5 with fail
  have hc0 := HC0.out W3 HB3.out
  have hc1 := HC1.out W3 HB3.out
  apply wp_region_lit
  iterate 4 (refine wpList_plain rfl (fun K hK => ?_); go_simp; refine hK _ _ ?_; clear hK K)
  (refine wpList_plain rfl (fun K hK => ?_); go_simp)
  refine (rall9_any MK ok ck N W3 (HKR.out.later (Ks HB1.out HB3.out)) (HRD.out.later (Ks HB1.out HB3.out)) (by have := HKL.out; omega)).mono ?_
  rintro e W4 ⟨xs, rfl, hx, hb4⟩
  refine hK _ _ ?_
  clear hK K hc0 hc1
  obtain ⟨AB, hAB⟩ : ∃ AB, Da.abad (Da.isMas MK.length) (Da.inR N) = AB := ⟨_, rfl⟩
  rw [hAB] at hx ⊢
  have hA9 : AB <= 9 := by rw [<- hAB]; unfold Da.abad; split <;> (try split) <;> omega
  obtain ⟨XA, hXA⟩ : ∃ XA : Array Value, xs.toArray = XA := ⟨_, rfl⟩
  have hxl : xs.length = 5 := by
   rw [hx.len]
   unfold Da.ares
   split <;> rfl
  have HFS : Hid ((Tryz.prog.info? 47).map (·.size) = some XA.size) := Lh (by rw [k5_info, <- hXA]; simp [hxl])
  have HFZ : Hid (Z.size = XA.size) := Lh (by rw [HZ.out, <- hXA]; simp [hxl]; rfl)
  have HFO : Hid (XA.all (·.oneCell') = true) := Lh (by rw [<- hXA]; exact all_oneCell_toArray hx.ones)
  obtain ⟨g7, hg7⟩ : ∃ g7, W4.heap.size = g7 := ⟨_, rfl⟩
  obtain ⟨W5, hW5⟩ : ∃ W5, W4.alloc (.cells Z 47) = W5 := ⟨_, rfl⟩
  have hz5 : W5.heap[g7]? = some (.cells Z 47 (0, 0)) := by rw [<- hW5, <- hg7]; exact World.alloc_heap_new W4 _
  obtain ⟨W6, hW6⟩ : ∃ W6, W5.setRow g7 XA = W6 := ⟨_, rfl⟩
  have hA6 : Arr W6 g7 47 xs := by rw [<- hW6]; unfold Arr; rw [hXA]; exact setRow_heap _ _ _ _ _ _ hz5
  have hb6 : Below W4.heap.size W4 W6 := by rw [<- hW6, <- hW5]; exact (new12 _ _).trans (below_row (Nat.le_of_eq hg7))
  have HB6 := Lh (Ks (Ks HB3.out hb4) hb6)
  obtain ⟨x3, hx3, hr3⟩ := (hx.later hb6).get 3 (by rw [<- hx.len, hxl]; omega)
  have HX6 : Hid (AB = 0 -> RowV (Da.key16 MK N 3) x3 W6) := Lh fun h => by
   rw [h] at hr3
   exact hr3
  have HC6 : Hid (W6.cell? ⟨g7, 3, none⟩ = some x3) := Lh (by rw [hA6.cell]; exact hx3)
  have HZ5 := Lh hz5
  have HW5 := Lh hW5
  have HW6 := Lh hW6
  have HG7 := Lh hg7
  have HAB := Lh hAB
  have HAB9 := Lh hA9
  have HG7L : Hid (g7 < W6.heap.size) := Lh hA6.lt
  rw [hXA]
  clear hx hb4 hXA hxl hg7 hW5 hz5 hW6 hA6 hb6 hx3 hr3 hAB hA9
  iterate 4 (refine wpList_plain rfl (fun K hK => ?_); go_simp; refine hK _ _ ?_; clear hK K)
  rw [HW5.out, HG7.out]
  refine wpList_store_rowTo rfl 47 (.tmp 7) (.tmp 31) rfl rfl g7 XA rfl rfl 47 Z HZ5.out HFS.out HFZ.out HFO.out ?_
  rw [HW6.out]
  (refine wpList_plain rfl (fun K hK => ?_); go_simp; refine hK _ _ ?_; clear hK K)
  go_upto_region 6 with fail
  have hc0 := HC0.out W6 HB6.out
  have hc1 := HC1.out W6 HB6.out
  apply wp_region_lit
  iterate 6 (refine wpList_plain rfl (fun K hK => ?_); go_simp; refine hK _ _ ?_; clear hK K)
  (refine wpList_plain rfl (fun K hK => ?_); go_simp)
  refine (HC.out.tag W6 ok ck MK N n oB cB B (HKR.out.later (Ks HB1.out HB6.out)) (HBR.out.later (Ks HB1.out HB6.out)) HKL.out HB60.out HNK.out HNN.out (HV.out.later (Ks HB1.out HB6.out)) (HE.out.e16.later (Ks HB1.out HB6.out))).mono ?_
  rintro e W7 ⟨xt, rfl, hxt, hb7⟩
  refine hK _ _ ?_
  clear hK K hc0 hc1
  obtain ⟨TB, hTB⟩ : ∃ TB, Da.tbad16 MK N n B.length = TB := ⟨_, rfl⟩
  rw [hTB] at hxt ⊢
  have HTB := Lh hTB
  have HB7 := Lh (Ks HB6.out hb7)
  have HXT := Lh hxt
  have HC7 : Hid (W7.cell? ⟨g7, 3, none⟩ = some x3) := Lh ((hb7.cell (p := ⟨g7, 3, none⟩) HG7L.out).trans HC6.out)
  have HX7 : Hid (AB = 0 -> RowV (Da.key16 MK N 3) x3 W7) := Lh fun h => (HX6.out h).later hb7
  have HG7M : Hid (g7 < W7.heap.size) := Lh (Nat.lt_of_lt_of_le HG7L.out hb7.size)
  clear hTB hb7 hxt
  iterate 5 (refine wpList_plain rfl (fun K hK => ?_); go_simp; refine hK _ _ ?_; clear hK K)
  go_upto_region 7 with fail
  have hc0 := HC0.out W7 HB7.out
  have hc1 := HC1.out W7 HB7.out
  apply wp_region_lit
  iterate 6 (refine wpList_plain rfl (fun K hK => ?_); go_simp; refine hK _ _ ?_; clear hK K)
  (refine wpList_plain rfl (fun K hK => ?_); go_simp)
  refine (HC.out.tagged W7 ok ck MK N n oB cB B (HKR.out.later (Ks HB1.out HB7.out)) (HBR.out.later (Ks HB1.out HB7.out)) HKL.out HB60.out HNK.out HNN.out (HV.out.later (Ks HB1.out HB7.out)) (HE.out.e16.later (Ks HB1.out HB7.out))).mono ?_
  rintro e W8 ⟨rfl, hb8⟩
  refine hK _ _ ?_
  clear hK K hc0 hc1
  rw [HAB.out]
  obtain ⟨t9, ht9⟩ : ∃ t9, (if AB = 0 then Da.tgd16 (Da.key16 MK N 3) n B else false) = t9 := ⟨_, rfl⟩
  rw [ht9]
  have HT9 := Lh ht9
  have HB78 := Lh hb8
  have HB8 := Lh (Ks HB7.out hb8)
  clear ht9 hb8
  iterate 5 (refine wpList_plain rfl (fun K hK => ?_); go_simp; refine hK _ _ ?_; clear hK K)
  go_upto_region 8 with fail
  apply wp_region_lit
  (refine wpList_plain rfl (fun K hK => ?_); go_simp; refine hK _ _ ?_; clear hK K)
  (refine wpList_plain rfl (fun K hK => ?_); go_simp)
  refine (HC.out.parts W8 oB cB B (HBR.out.later (Ks HB1.out HB8.out)) HB60.out (HE.out.e16.later (Ks HB1.out HB8.out))).mono ?_
  rintro e W9 ⟨xb, xg, rfl, hxb, hxg, hb9⟩
  refine hK _ _ ?_
  clear hK K
  have HB9 := Lh (Ks HB8.out hb9)
  have HB79 := Lh (Ks HB78.out hb9)
  have HXB := Lh hxb
  have HXG := Lh hxg
  clear hb9 hxb hxg
  iterate 7 (refine wpList_plain rfl (fun K hK => ?_); go_simp; refine hK _ _ ?_; clear hK K)
  have HKY : Hid ((Da.key16 MK N 3).length <= 90000) := Lh (by
   have : (Da.key16 MK N 3).length = 32 := Da.keyL_length _ _ _
   omega)
  have HQ9 : Hid (Below W9.heap.size W9 W9) := Lh (Below.refl _ _)
  have HBT : Hid (∀ v, Below W9.heap.size W9 v -> Below W7.heap.size W7 v) := Lh fun v hv => Ks HB79.out hv
  have HCX : Hid (∀ v, Below W9.heap.size W9 v -> v.cell? ⟨g7, 3, none⟩ = some x3) := Lh fun v hv => ((HBT.out v hv).cell (p := ⟨g7, 3, none⟩) HG7M.out).trans HC7.out
  have HX3 : Hid (AB = 0 -> ∀ v, Below W9.heap.size W9 v -> RowV (Da.key16 MK N 3) x3 v) := Lh fun h v hv => (HX7.out h).later (HBT.out v hv)
  by_cases h16 : B.length = 16
  ·have hxb := HXB.out
   have hxg := HXG.out
   rw [if_pos h16] at hxb hxg
   rw [if_pos h16, errV_nil]
   have z16 : ((B.length : Int) != 16) = false := by rw [h16]; rfl
   have z16' : ((B.length : Int) == 16) = true := by rw [h16]; rfl
   obtain ⟨ob, cb, rfl, hrb⟩ := hxb
   obtain ⟨og, cg, rfl, hrg⟩ := hxg
   obtain ⟨bB, oo, rfl, hltB, hclB⟩ := (HBR.out.later (Ks HB1.out HB9.out)).cells (by rw [bytesV_length]; omega)
   obtain ⟨BX, hBX⟩ : ∃ BX, B.take 8 = BX := ⟨_, rfl⟩
   obtain ⟨BY, hBY⟩ : ∃ BY, B.drop 8 = BY := ⟨_, rfl⟩
   have hxl : BX.length = 8 := by rw [<- hBX, List.length_take]; omega
   have hyl : BY.length = 8 := by rw [<- hBY, List.length_drop]; omega
   rw [hBX] at hrb ⊢
   rw [hBY] at hrg ⊢
   rw [hxl, hyl]
   have hB9 := HBR.out.later (Ks HB1.out HB9.out)
   have hTk : RowIs W9 (some ⟨bB, oo, none⟩) (bytesV BX) cB := by rw [<- hBX]; exact hB9.take 8
   have hDr : RowIs W9 (some ⟨bB, oo + 8, none⟩) (bytesV BY) (cB - 8) := by
    have h := hB9.part 8 8 (by rw [bytesV_length]; omega) (cB - 8) (by omega) (by unfold maxLen; omega)
    have e : ((bytesV B).drop 8).take 8 = bytesV BY := by
     rw [<- hBY, List.take_of_length_le (by rw [List.length_drop, bytesV_length]; omega)]
     simp [bytesV, List.map_drop]
    rw [e] at h
    exact h
   obtain ⟨SX, hSX⟩ : ∃ SX : ByteArray, (⟨BX.toArray⟩ : ByteArray) = SX := ⟨_, rfl⟩
   obtain ⟨SY, hSY⟩ : ∃ SY : ByteArray, (⟨BY.toArray⟩ : ByteArray) = SY := ⟨_, rfl⟩
   have cv : ∀ (v : World) (a : Option Addr) (z : List UInt8) (c : Nat), z.length = 8 -> RowIs v a (bytesV z) c -> (convert 22 9 (.slice a 8 c)).run Tryz.prog v = .ok (.string ⟨z.toArray⟩) v := fun v a z c hz h => by
    have this : (convert 22 9 (.slice a z.length c)).run Tryz.prog v = .ok (.string ⟨z.toArray⟩) v := run_string h Tryz.underlying22 Tryz.underlying5 Tryz.underlying9 _
    rw [hz] at this
    exact this
   have CV1 : Hid (∀ v, Below W9.heap.size W9 v -> (convert 22 9 (.slice ob 8 cb)).run Tryz.prog v = .ok (.string SX) v) := Lh fun v hv => by rw [cv v ob BX cb hxl (hrb.later hv), hSX]
   have CV2 : Hid (∀ v, Below W9.heap.size W9 v -> (convert 22 9 (.slice (some ⟨bB, oo, none⟩) 8 cB)).run Tryz.prog v = .ok (.string SX) v) := Lh fun v hv => by rw [cv v _ BX cB hxl (hTk.later hv), hSX]
   have CV3 : Hid (∀ v, Below W9.heap.size W9 v -> (convert 22 9 (.slice og 8 cg)).run Tryz.prog v = .ok (.string SY) v) := Lh fun v hv => by rw [cv v og BY cg hyl (hrg.later hv), hSY]
   have CV4 : Hid (∀ v, Below W9.heap.size W9 v -> (convert 22 9 (.slice (some ⟨bB, oo + 8, none⟩) 8 (cB - 8))).run Tryz.prog v = .ok (.string SY) v) := Lh fun v hv => by rw [cv v _ BY (cB - 8) hyl (hDr.later hv), hSY]
   have hne1 := str_neq16 SX
   have hne2 := str_neq16 SY
   have hqn := neq_nil
   have hcb8 : 8 <= cB := by omega
   have hcbi : (8 : Int) <= (cB : Int) := by omega
   have hcb9 : ¬ cB = 8 := by omega
   obtain ⟨CC, hC⟩ : ∃ CC : World -> Prop, (fun v => Below W9.heap.size W9 v) = CC := ⟨_, rfl⟩
   have hCm : ∀ v, CC v -> Below W9.heap.size W9 v := fun v hv => by rw [<- hC] at hv; exact hv
   have hCi : ∀ v, Below W9.heap.size W9 v -> CC v := fun v hv => by rw [<- hC]; exact hv
   have hC0 : CC { W9 with drawn := W9.drawn + 1 } := hCi _ (Kit.dn' W9 1)
   have HCm := Lh hCm
   have HCi := Lh hCi
   clear hB9 hTk hDr hSX hSY cv hBX hBY hxl hyl hrb hrg hltB hclB hC hCm hCi
   go_upto_region 12 with fail
   refine wp_region_quiet (C := CC) (by kernel_rfl) (by kernel_rfl) hC0 ?_
   simp only
   iterate 4 (refine wpQuiet_step (fun K hK => ?_); refine St.qk_val (x := ?_) (by rfl) (fun w hw => ?_) ?_; rotate_left; (· go_simp <;> with_reducible rfl); go_simp; refine hK _ ?_; clear hK K)
   (refine wpQuiet_step (fun K hK => ?_); refine St.qk_val (x := .string SX) (by rfl) (fun w hw => St.exec_conv rfl (CV1.out w (HCm.out w hw))) ?_; go_simp; refine hK _ ?_; clear hK K)
   (refine wpQuiet_step (fun K hK => ?_); refine St.qk_val (x := ?_) (by rfl) (fun w hw => ?_) ?_; rotate_left; (· go_simp <;> with_reducible rfl); go_simp; refine hK _ ?_; clear hK K)
   (refine wpQuiet_step (fun K hK => ?_); refine St.qk_val (x := .slice (some ⟨bB, oo, none⟩) 8 cB) (by rfl) (fun w hw => by go_simp) ?_; go_simp; refine hK _ ?_; clear hK K)
   (refine wpQuiet_step (fun K hK => ?_); refine St.qk_val (x := .string SX) (by rfl) (fun w hw => St.exec_conv rfl (CV2.out w (HCm.out w hw))) ?_; go_simp; refine hK _ ?_; clear hK K)
   iterate 4 (refine wpQuiet_step (fun K hK => ?_); refine St.qk_val (x := ?_) (by rfl) (fun w hw => ?_) ?_; rotate_left; (· go_simp <;> with_reducible rfl); go_simp; refine hK _ ?_; clear hK K)
   (refine wpQuiet_step (fun K hK => ?_); refine St.qk_val (x := .string SY) (by rfl) (fun w hw => St.exec_conv rfl (CV3.out w (HCm.out w hw))) ?_; go_simp; refine hK _ ?_; clear hK K)
   (refine wpQuiet_step (fun K hK => ?_); refine St.qk_val (x := ?_) (by rfl) (fun w hw => ?_) ?_; rotate_left; (· go_simp <;> with_reducible rfl); go_simp; refine hK _ ?_; clear hK K)
   (refine wpQuiet_step (fun K hK => ?_); refine St.qk_val (x := .slice (some ⟨bB, oo + 8, none⟩) 8 (cB - 8)) (by rfl) (fun w hw => by go_simp) ?_; go_simp; refine hK _ ?_; clear hK K)
   (refine wpQuiet_step (fun K hK => ?_); refine St.qk_val (x := .string SY) (by rfl) (fun w hw => St.exec_conv rfl (CV4.out w (HCm.out w hw))) ?_; go_simp; refine hK _ ?_; clear hK K)
   iterate 2 (refine wpQuiet_step (fun K hK => ?_); refine St.qk_val (x := ?_) (by rfl) (fun w hw => ?_) ?_; rotate_left; (· go_simp <;> with_reducible rfl); go_simp; refine hK _ ?_; clear hK K)
   refine wpQuiet_nil ?_
   intro W10 hW10
   have HQ10 := Lh (HCm.out W10 hW10)
   have HB10 := Lh (Ks HB9.out HQ10.out)
   clear hW10 hC0 hne1 hne2 HCm HCi CV1 CV2 CV3 CV4
   have hxt := HXT.out
   have ht9 := HT9.out
   by_cases ha0 : AB = 0
   ·subst ha0
    rw [if_pos rfl] at ht9
    rw [errV_nil]
    have hqn := neq_nil
    have hc3 : W10.cell? ⟨g7, 3, none⟩ = some x3 := HCX.out W10 HQ10.out
    obtain ⟨tg, htg⟩ : ∃ tg, Da.tgd16 (Da.key16 MK N 3) n B = tg := ⟨_, rfl⟩
    rw [htg] at ht9
    subst ht9
    have HTGD := Lh htg
    clear htg
    go_wp2_with fail
    refine (rtagged16_rv (k := Da.key16 MK N 3) (Y := B) (y := .slice (some ⟨bB, oo, none⟩) 16 cB) (HX3.out (by first | rfl | trivial) W10 HQ10.out) ⟨(some ⟨bB, oo, none⟩), cB, by rw [h16], HBR.out.later (Ks HB1.out HB10.out)⟩ (HRD.out.later (Ks HB1.out HB10.out)) (HKY.out) HB60.out HNN.out).mono ?_
    rintro e W11 ⟨rfl, hb⟩
    have HB11 := Lh (Ks HB10.out hb)
    have HQ11 := Lh (Ks HQ10.out hb)
    rw [HTGD.out]
    clear hb hc3
    by_cases hr : 0 <= n /\ n < 512
    ·have dn1 : decide (n < 0) = false := decide_eq_false (by omega)
     have dn2 : decide (n > 511) = false := decide_eq_false (by omega)
     have dn3 : decide (511 < n) = false := decide_eq_false (by omega)
     by_cases h8 : B.length = 8
     ·omega
     ·have htb : TB = 8 := by rw [<- HTB.out]; unfold Da.tbad16; rw [HAB.out, if_pos rfl, if_pos hr, if_neg h8]
      have hz8 : ((B.length : Int) != 8) = true := by rw [bne_iff_ne]; omega
      have hz8' : ((B.length : Int) == 8) = false := by rw [beq_eq_false_iff_ne]; omega
      subst htb
      rw [if_neg (by decide)] at hxt
      obtain ⟨ot, ct, rfl, hrt⟩ := hxt
      rw [show ([] : List UInt8).length = 0 from rfl]
      clear hrt
      go_wp2_with fail
      refine (errV_num A 8 (by omega) W11 (HE.out.later (Ks HB1.out HB11.out))).mono ?_
      rintro e W12 ⟨rfl, hb⟩
      have HB12 := Lh (Ks HB11.out hb)
      have HQ12 := Lh (Ks HQ11.out hb)
      clear hb
      go_wp2_with fail
      go_ret
      exact ⟨rfl, Ks HB1.out HB12.out⟩
    ·have htb : TB = 1 := by rw [<- HTB.out]; unfold Da.tbad16; rw [HAB.out, if_pos rfl, if_neg hr]
     subst htb
     rw [if_neg (by decide)] at hxt
     obtain ⟨ot, ct, rfl, hrt⟩ := hxt
     rw [show ([] : List UInt8).length = 0 from rfl]
     clear hrt
     by_cases hn0 : n < 0
     ·have dn1 : decide (n < 0) = true := decide_eq_true hn0
      go_wp2_with fail
      refine (errV_num A 1 (by omega) W11 (HE.out.later (Ks HB1.out HB11.out))).mono ?_
      rintro e W12 ⟨rfl, hb⟩
      have HB12 := Lh (Ks HB11.out hb)
      have HQ12 := Lh (Ks HQ11.out hb)
      clear hb
      go_wp2_with fail
      go_ret
      exact ⟨rfl, Ks HB1.out HB12.out⟩
     ·have dn1 : decide (n < 0) = false := decide_eq_false hn0
      have dn2 : decide (n > 511) = true := decide_eq_true (by omega)
      have dn3 : decide (511 < n) = true := decide_eq_true (by omega)
      go_wp2_with fail
      refine (errV_num A 1 (by omega) W11 (HE.out.later (Ks HB1.out HB11.out))).mono ?_
      rintro e W12 ⟨rfl, hb⟩
      have HB12 := Lh (Ks HB11.out hb)
      have HQ12 := Lh (Ks HQ11.out hb)
      clear hb
      go_wp2_with fail
      go_ret
      exact ⟨rfl, Ks HB1.out HB12.out⟩
   ·have hn1 : ¬ (AB : Int) = 0 := by omega
    have hn2 : ((AB : Int) == 0) = false := beq_false_of_ne hn1
    have hn3 : ((AB : Int) != 0) = true := by rw [bne_iff_ne]; exact hn1
    have htb : TB = AB := by rw [<- HTB.out]; unfold Da.tbad16; rw [HAB.out, if_neg ha0]
    subst htb
    rw [if_neg ha0] at hxt ht9
    subst ht9
    obtain ⟨ot, ct, rfl, hrt⟩ := hxt
    rw [show ([] : List UInt8).length = 0 from rfl]
    clear hrt
    have hl9 := HAB9.out
    go_wp2_with fail
    refine (errV_num A TB (by omega) W10 (HE.out.later (Ks HB1.out HB10.out))).mono ?_
    rintro e W11 ⟨rfl, hb⟩
    have HB11 := Lh (Ks HB10.out hb)
    have HQ11 := Lh (Ks HQ10.out hb)
    clear hb
    go_wp2_with fail
    refine (errV_num A TB (by omega) W11 (HE.out.later (Ks HB1.out HB11.out))).mono ?_
    rintro e W12 ⟨rfl, hb⟩
    have HB12 := Lh (Ks HB11.out hb)
    have HQ12 := Lh (Ks HQ11.out hb)
    clear hb
    go_wp2_with fail
    go_ret
    exact ⟨rfl, Ks HB1.out HB12.out⟩
  ·have hxb := HXB.out
   have hxg := HXG.out
   rw [if_neg h16] at hxb hxg
   rw [if_neg h16]
   have z16 : ((B.length : Int) != 16) = true := by rw [bne_iff_ne]; omega
   have z16' : ((B.length : Int) == 16) = false := by rw [beq_eq_false_iff_ne]; omega
   obtain ⟨ob, cb, rfl, hrb⟩ := hxb
   obtain ⟨og, cg, rfl, hrg⟩ := hxg
   rw [show ([] : List UInt8).length = 0 from rfl]
   clear hrb hrg
   go_wp2_with fail
   refine (errV_num A 8 (by omega) W9 (HE.out.later (Ks HB1.out HB9.out))).mono ?_
   rintro e W10 ⟨rfl, hb⟩
   have HB10 := Lh (Ks HB9.out hb)
   have HQ10 := Lh (Ks HQ9.out hb)
   clear hb
   have hxt := HXT.out
   have ht9 := HT9.out
   by_cases ha0 : AB = 0
   ·subst ha0
    rw [if_pos rfl] at ht9
    rw [errV_nil]
    have hqn := neq_nil
    have hc3 : W10.cell? ⟨g7, 3, none⟩ = some x3 := HCX.out W10 HQ10.out
    obtain ⟨tg, htg⟩ : ∃ tg, Da.tgd16 (Da.key16 MK N 3) n B = tg := ⟨_, rfl⟩
    rw [htg] at ht9
    subst ht9
    have HTGD := Lh htg
    clear htg
    go_wp2_with fail
    refine (rtagged16_rv (k := Da.key16 MK N 3) (Y := B) (y := .slice oB B.length cB) (HX3.out (by first | rfl | trivial) W10 HQ10.out) ⟨oB, cB, rfl, HBR.out.later (Ks HB1.out HB10.out)⟩ (HRD.out.later (Ks HB1.out HB10.out)) (HKY.out) HB60.out HNN.out).mono ?_
    rintro e W11 ⟨rfl, hb⟩
    have HB11 := Lh (Ks HB10.out hb)
    have HQ11 := Lh (Ks HQ10.out hb)
    rw [HTGD.out]
    clear hb hc3
    by_cases hr : 0 <= n /\ n < 512
    ·have dn1 : decide (n < 0) = false := decide_eq_false (by omega)
     have dn2 : decide (n > 511) = false := decide_eq_false (by omega)
     have dn3 : decide (511 < n) = false := decide_eq_false (by omega)
     by_cases h8 : B.length = 8
     ·have htb : TB = 0 := by rw [<- HTB.out]; unfold Da.tbad16; rw [HAB.out, if_pos rfl, if_pos hr, if_pos h8]
      have hz8 : ((B.length : Int) != 8) = false := by rw [h8]; rfl
      have hz8' : ((B.length : Int) == 8) = true := by rw [h8]; rfl
      subst htb
      rw [if_pos rfl] at hxt
      rw [errV_nil]
      obtain ⟨T, hT⟩ : ∃ T, Da.tg16 (Da.key16 MK N 3) n B = T := ⟨_, rfl⟩
      rw [hT] at hxt
      obtain ⟨ot, ct, rfl, hrt⟩ := hxt
      have hTY : RowV T (.slice ot T.length ct) W11 := ⟨ot, ct, rfl, hrt.later (HBT.out W11 HQ11.out)⟩
      have hBY : RowV B (.slice oB 8 cB) W11 := ⟨oB, cB, by rw [h8], HBR.out.later (Ks HB1.out HB11.out)⟩
      have hX3 : RowV (Da.key16 MK N 3) x3 W11 := HX3.out (by first | rfl | trivial) W11 HQ11.out
      have hC3 : ∀ v, Below W11.heap.size W11 v -> v.cell? ⟨g7, 3, none⟩ = some x3 := fun v hv => HCX.out v (Ks HQ11.out hv)
      have hrtg : ∀ v, Below W11.heap.size W11 v -> ∀ a1 a2, RowV (Da.key16 MK N 3) a1 v -> RowV B a2 v -> Calls Tryz.prog 29 #[a1, .int .i64 n, a2] v fun e v' => ∃ r, e = .returned r /\ RowV T r v' /\ Below v.heap.size v v' := fun v hv a1 a2 h1 h2 => by
       have := rtag16_rv (n := n) h1 h2 (HRD.out.later (Ks HB1.out (Ks HB11.out hv))) HKY.out (by have := HB60.out; omega)
       rw [hT] at this
       exact this
      have hst : ∀ W, (binOp .eql 9 (.string ⟨T.toArray⟩) (.string ⟨T.toArray⟩)).run Tryz.prog W = .ok (.bool true) W := fun W => by rw [str_eql16]; simp
      have hen := eql_nil16
      obtain ⟨KT, hKT⟩ : ∃ KT, Da.key16 MK N 3 = KT := ⟨_, rfl⟩
      rw [hKT] at hX3 hrtg
      clear hT hrt hKT
      go_upto_region 22 with fail
      refine Rg.region_grow (by kernel_rfl) (TgsG KT T B n g7 x3) (by kernel_rfl) TgsG.later ?gd ?step ?fin
      case gd =>
       intro i op k t ho hg x v hG
       have hi := (aE.1 ho).1
       match i, hi with
       | 0, _ =>
        obtain rfl := Option.some.inj ho
        cases hg
       | 1, _ =>
        obtain rfl := Option.some.inj ho
        cases hg
       | 2, _ =>
        obtain rfl := Option.some.inj ho
        cases hg
       | 3, _ =>
        obtain rfl := Option.some.inj ho
        obtain ⟨rfl, rfl⟩ : 2 = k /\ true = t := by simpa using hg
        exact hG
       | 4, _ =>
        obtain rfl := Option.some.inj ho
        obtain ⟨rfl, rfl⟩ : 2 = k /\ true = t := by simpa using hg
        exact hG
       | 5, _ =>
        obtain rfl := Option.some.inj ho
        obtain ⟨rfl, rfl⟩ : 2 = k /\ true = t := by simpa using hg
        exact hG
       | 6, _ =>
        obtain rfl := Option.some.inj ho
        obtain ⟨rfl, rfl⟩ : 2 = k /\ true = t := by simpa using hg
        exact hG
       | 7, _ =>
        obtain rfl := Option.some.inj ho
        obtain ⟨rfl, rfl⟩ : 2 = k /\ true = t := by simpa using hg
        exact hG
       | 8, _ =>
        obtain rfl := Option.some.inj ho
        obtain ⟨rfl, rfl⟩ : 2 = k /\ true = t := by simpa using hg
        exact hG
       | 9, _ =>
        obtain rfl := Option.some.inj ho
        obtain ⟨rfl, rfl⟩ : 2 = k /\ true = t := by simpa using hg
        exact hG
       | 10, _ =>
        obtain rfl := Option.some.inj ho
        obtain ⟨rfl, rfl⟩ : 2 = k /\ true = t := by simpa using hg
        exact hG
       | 11, _ =>
        obtain rfl := Option.some.inj ho
        obtain ⟨rfl, rfl⟩ : 2 = k /\ true = t := by simpa using hg
        exact hG
       | 12, _ =>
        obtain rfl := Option.some.inj ho
        cases hg
       | 13, _ =>
        obtain rfl := Option.some.inj ho
        cases hg
       | n + 14, h => exact absurd h (by simp)
      case step =>
       intro i op b v ho hb hrest hdep
       have r10 : b.eval (.tmp 10) = .nilIface := hrest 10 (Rg.free_spec (by kernel_rfl))
       have r9 : b.eval (.tmp 9) = .slice ot T.length ct := hrest 9 (Rg.free_spec (by kernel_rfl))
       have r7 : b.eval (.tmp 7) = .pointer (some ⟨g7, 0, none⟩) := hrest 7 (Rg.free_spec (by kernel_rfl))
       have r1 : b.eval (.tmp 1) = .int .i64 n := hrest 1 (Rg.free_spec (by kernel_rfl))
       have r2 : b.eval (.tmp 2) = .slice oB 8 cB := hrest 2 (Rg.free_spec (by kernel_rfl))
       have hi := (aE.1 ho).1
       match i, hi with
       | 0, _ =>
        obtain rfl := Option.some.inj ho
        have d1 : b.eval (.tmp 10) = .nilIface := r10
        exact Rg.does_move rfl d1
       | 1, _ =>
        obtain rfl := Option.some.inj ho
        have d1 : (b.eval (.tmp 150)) = .nilIface := hdep ⟨0, .data⟩ (by simp) rfl _ _ rfl rfl
        have f1 : b.tmps[150]?.getD undef = _ := (show _ = b.eval (.tmp 150) by simp [Act.eval]).trans d1
        refine Rg.does_pure (.bool true) ?_ rfl
        have q := hen
        simp only [execOp]
        go_simp
       | 2, _ =>
        obtain rfl := Option.some.inj ho
        have d1 : (b.eval (.tmp 151)) = .bool true := hdep ⟨1, .data⟩ (by simp) rfl _ _ rfl rfl
        exact Rg.does_move rfl d1
       | 3, _ =>
        obtain rfl := Option.some.inj ho
        have d1 : RowV (T) (b.eval (.tmp 9)) v := by rw [r9]; exact hTY.later hb
        exact Rg.does_move rfl d1
       | 4, _ =>
        obtain rfl := Option.some.inj ho
        have d1 : RowV (T) (b.eval (.tmp 153)) v := hdep ⟨3, .data⟩ (by simp) rfl _ _ rfl rfl
        exact Rg.does_conv rfl (conv_rv d1) (rfl)
       | 5, _ =>
        obtain rfl := Option.some.inj ho
        have d1 : b.eval (.tmp 7) = _ := r7
        have f1 : b.tmps[7]?.getD undef = _ := (show _ = b.eval (.tmp 7) by simp [Act.eval]).trans d1
        refine Rg.does_pure (.pointer (some ⟨g7, 3, none⟩)) ?_ rfl
        simp only [execOp]
        go_simp
       | 6, _ =>
        obtain rfl := Option.some.inj ho
        have d1 : b.eval (.tmp 155) = .pointer (some ⟨g7, 3, none⟩) := hdep ⟨5, .data⟩ (by simp) rfl _ _ rfl rfl
        have f1 : b.tmps[155]?.getD undef = _ := (show _ = b.eval (.tmp 155) by simp [Act.eval]).trans d1
        have hc := hC3 v hb
        refine Rg.does_pure x3 ?_ (hX3.later hb)
        simp only [execOp]
        go_simp
       | 7, _ =>
        obtain rfl := Option.some.inj ho
        have d1 : b.eval (.tmp 1) = .int .i64 n := r1
        exact Rg.does_move rfl d1
       | 8, _ =>
        obtain rfl := Option.some.inj ho
        have d1 : RowV (B) (b.eval (.tmp 2)) v := by rw [r2]; exact hBY.later hb
        exact Rg.does_move rfl d1
       | 9, _ =>
        obtain rfl := Option.some.inj ho
        have d1 : RowV (KT) (b.eval (.tmp 156)) v := hdep ⟨6, .data⟩ (by simp) rfl _ _ rfl rfl
        have d2 : (b.eval (.tmp 157)) = .int .i64 n := hdep ⟨7, .data⟩ (by simp) rfl _ _ rfl rfl
        have d3 : RowV (B) (b.eval (.tmp 158)) v := hdep ⟨8, .data⟩ (by simp) rfl _ _ rfl rfl
        refine Rg.does_fn rfl (enters_of Tryz.func29 (by kernel_rfl) rfl) (args := #[b.eval (.tmp 156), b.eval (.tmp 157), b.eval (.tmp 158)]) (by simp) ?_
        rw [d2]
        exact hrtg v hb _ _ d1 d3
       | 10, _ =>
        obtain rfl := Option.some.inj ho
        have d1 : RowV (T) (b.eval (.tmp 159)) v := hdep ⟨9, .data⟩ (by simp) rfl _ _ rfl rfl
        exact Rg.does_conv rfl (conv_rv d1) (rfl)
       | 11, _ =>
        obtain rfl := Option.some.inj ho
        have d1 : (b.eval (.tmp 154)) = .string ⟨(T).toArray⟩ := hdep ⟨4, .data⟩ (by simp) rfl _ _ rfl rfl
        have d2 : (b.eval (.tmp 160)) = .string ⟨(T).toArray⟩ := hdep ⟨10, .data⟩ (by simp) rfl _ _ rfl rfl
        have f1 : b.tmps[154]?.getD undef = _ := (show _ = b.eval (.tmp 154) by simp [Act.eval]).trans d1
        have f2 : b.tmps[160]?.getD undef = _ := (show _ = b.eval (.tmp 160) by simp [Act.eval]).trans d2
        refine Rg.does_pure (.bool true) ?_ rfl
        have hu := Tryz.underlying9
        have q := hst
        simp only [execOp]
        go_simp
       | 12, _ =>
        obtain rfl := Option.some.inj ho
        have d1 : (b.eval (.tmp 152)) = .bool true := hdep ⟨2, .data⟩ (by simp) rfl _ _ rfl rfl
        have d2 : (b.eval (.tmp 161)) = .bool true := hdep ⟨11, .data⟩ (by simp) rfl _ _ rfl rfl
        exact Rg.does_pick rfl d1 d2
       | 13, _ =>
        obtain rfl := Option.some.inj ho
        have d1 : (b.eval (.tmp 162)) = .bool true := hdep ⟨12, .data⟩ (by simp) rfl _ _ rfl rfl
        exact Rg.does_assign rfl d1
       | n + 14, h => exact absurd h (by simp)
      case fin =>
       intro b v2 hb2 hs hd hrest hall
       have h6 : b.tmps.getD 6 undef = .bool true := hall 13 _ 6 rfl rfl
       have HBZ := Lh (Ks (Ks HB1.out HB11.out) hb2)
       go_wp2
       refine bodyPost_ret (results_tmp rfl _ _ _) hd ?_
       exact ⟨by rw [h6], HBZ.out⟩
     ·have htb : TB = 8 := by rw [<- HTB.out]; unfold Da.tbad16; rw [HAB.out, if_pos rfl, if_pos hr, if_neg h8]
      have hz8 : ((B.length : Int) != 8) = true := by rw [bne_iff_ne]; omega
      have hz8' : ((B.length : Int) == 8) = false := by rw [beq_eq_false_iff_ne]; omega
      subst htb
      rw [if_neg (by decide)] at hxt
      obtain ⟨ot, ct, rfl, hrt⟩ := hxt
      rw [show ([] : List UInt8).length = 0 from rfl]
      clear hrt
      go_wp2_with fail
      refine (errV_num A 8 (by omega) W11 (HE.out.later (Ks HB1.out HB11.out))).mono ?_
      rintro e W12 ⟨rfl, hb⟩
      have HB12 := Lh (Ks HB11.out hb)
      have HQ12 := Lh (Ks HQ11.out hb)
      clear hb
      go_wp2_with fail
      go_ret
      exact ⟨rfl, Ks HB1.out HB12.out⟩
    ·have htb : TB = 1 := by rw [<- HTB.out]; unfold Da.tbad16; rw [HAB.out, if_pos rfl, if_neg hr]
     subst htb
     rw [if_neg (by decide)] at hxt
     obtain ⟨ot, ct, rfl, hrt⟩ := hxt
     rw [show ([] : List UInt8).length = 0 from rfl]
     clear hrt
     by_cases hn0 : n < 0
     ·have dn1 : decide (n < 0) = true := decide_eq_true hn0
      go_wp2_with fail
      refine (errV_num A 1 (by omega) W11 (HE.out.later (Ks HB1.out HB11.out))).mono ?_
      rintro e W12 ⟨rfl, hb⟩
      have HB12 := Lh (Ks HB11.out hb)
      have HQ12 := Lh (Ks HQ11.out hb)
      clear hb
      go_wp2_with fail
      go_ret
      exact ⟨rfl, Ks HB1.out HB12.out⟩
     ·have dn1 : decide (n < 0) = false := decide_eq_false hn0
      have dn2 : decide (n > 511) = true := decide_eq_true (by omega)
      have dn3 : decide (511 < n) = true := decide_eq_true (by omega)
      go_wp2_with fail
      refine (errV_num A 1 (by omega) W11 (HE.out.later (Ks HB1.out HB11.out))).mono ?_
      rintro e W12 ⟨rfl, hb⟩
      have HB12 := Lh (Ks HB11.out hb)
      have HQ12 := Lh (Ks HQ11.out hb)
      clear hb
      go_wp2_with fail
      go_ret
      exact ⟨rfl, Ks HB1.out HB12.out⟩
   ·have hn1 : ¬ (AB : Int) = 0 := by omega
    have hn2 : ((AB : Int) == 0) = false := beq_false_of_ne hn1
    have hn3 : ((AB : Int) != 0) = true := by rw [bne_iff_ne]; exact hn1
    have htb : TB = AB := by rw [<- HTB.out]; unfold Da.tbad16; rw [HAB.out, if_neg ha0]
    subst htb
    rw [if_neg ha0] at hxt ht9
    subst ht9
    obtain ⟨ot, ct, rfl, hrt⟩ := hxt
    rw [show ([] : List UInt8).length = 0 from rfl]
    clear hrt
    have hl9 := HAB9.out
    go_wp2_with fail
    refine (errV_num A TB (by omega) W10 (HE.out.later (Ks HB1.out HB10.out))).mono ?_
    rintro e W11 ⟨rfl, hb⟩
    have HB11 := Lh (Ks HB10.out hb)
    have HQ11 := Lh (Ks HQ10.out hb)
    clear hb
    go_wp2_with fail
    refine (errV_num A TB (by omega) W11 (HE.out.later (Ks HB1.out HB11.out))).mono ?_
    rintro e W12 ⟨rfl, hb⟩
    have HB12 := Lh (Ks HB11.out hb)
    have HQ12 := Lh (Ks HQ11.out hb)
    clear hb
    go_wp2_with fail
    go_ret
    exact ⟨rfl, Ks HB1.out HB12.out⟩
theorem tgs16_any (A : Nat -> Addr) (hC : SlC A)
    (MK F B : List UInt8) (ok oF oB : Option Addr) (ck cF cB : Nat) (N n : Int) (p : Pm15) (w : World) (hK : RowIs w ok (bytesV MK) ck) (hF : RowIs w oF (bytesV F) cF) (hB : RowIs w oB (bytesV B) cB) (hN : in64 N) (hn : in64 n) (hok : p.ok) (hV : Cds w) (hR : Rds w) (hE : Er.Errs w A) :
    Calls Tryz.prog 5 #[.agg (mdA (.slice ok MK.length ck) N (.slice oF F.length cF) p), .int .i64 n, .slice oB B.length cB] w fun e w' => e = .returned (.bool true) /\ Below w.heap.size w w' := tgs16_of _ rfl k5_zero A hC MK F B ok oF oB ck cF cB N n p w hK hF hB hN hn hok hV hR hE
end Go.Proofs.YtffheegeaghfjaaGreatDoor
