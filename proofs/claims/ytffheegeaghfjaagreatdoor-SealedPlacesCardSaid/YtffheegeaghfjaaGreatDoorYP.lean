/- YP -/
import Derived.Test.YtffheegeaghfjaaGreatDoorVr2
import Derived.Test.YtffheegeaghfjaaGreatDoorUx16
import Derived.Test.YtffheegeaghfjaaGreatDoorPkx
import Derived.Test.YtffheegeaghfjaaGreatDoorCh16
import Derived.Test.YtffheegeaghfjaaGreatDoorYHPS
import Derived.Test.YtffheegeaghfjaaGreatDoorYHPT
import Derived.Test.YtffheegeaghfjaaGreatDoorYPST
import Derived.Test.YtffheegeaghfjaaGreatDoorYPS
set_option linter.unusedVariables false
set_option linter.unusedSimpArgs false
set_option maxRecDepth 100000
set_option maxHeartbeats 8000000
namespace Go.Proofs.YtffheegeaghfjaaGreatDoor
open Go.RowKit
theorem rstored15_any (p : Pm15) (h : Da.Right15 p) (w : World) : Calls Tryz.prog 21 #[.agg (pmA p)] w fun e w' => e = .returned (.int .i64 ((Da.tot15 p.sz : Int) + p.se)) /\ Below w.heap.size w w' := by
 obtain ⟨W1, hW1⟩ : ∃ W1, w.alloc (.cells (pmA p) 41) = W1 := ⟨_, rfl⟩
 have hb1 : Below w.heap.size w W1 := by rw [<- hW1]; exact new12 _ _
 have hP : PmAt W1 w.heap.size p := by rw [<- hW1]; exact PmAt.new _ _ _
 have TO := rtotal_any p.sz.toNat W1 (by have := h.s1; omega)
 rw [show ((p.sz.toNat : Nat) : Int) = p.sz by have := h.s0; omega, show totN (nbk p.sz.toNat) = Da.tot15 p.sz from rfl] at TO
 have hbd : Da.tot15 p.sz <= 100000 := by
  have := nbk_bd p.sz.toNat (by have := h.s1; omega)
  unfold Da.tot15 totN shpN
  split <;> simp <;> omega
 obtain ⟨T, hT⟩ : ∃ T, Da.tot15 p.sz = T := ⟨_, rfl⟩
 rw [hT] at TO hbd ⊢
 have hw0 : IntKind.i64.wrap ((T : Int) + p.se) = (T : Int) + p.se := by rw [IntKind.wrap_i64]; have := h.e0; have := h.e1; omega
 have hc0 := hP.c0
 have HP := Lh hP
 have HTO := Lh TO
 have HB1 := Lh hb1
 have HW1 := Lh hW1
 obtain ⟨Q, hQ⟩ : ∃ Q, pmA p = Q := ⟨_, rfl⟩
 rw [hQ] at HW1 ⊢
 obtain ⟨sz, se, sp, pe, pa, re⟩ := p
 dsimp only at hc0 hw0 HTO ⊢
 clear hb1 hP hW1 hT hQ TO h
 go_enter Tryz.func21, Tryz.ntmps21
 go_upto_region 1 with fail
 rw [HW1.out]
 go_wp2_with fail
 refine HTO.out.mono ?_
 rintro e W2 ⟨rfl, hb2⟩
 have hc1 := (HP.out.later hb2).c1
 dsimp only at hc1
 have HB2 := Lh (Ks HB1.out hb2)
 clear hb2
 go_wp2_with fail
 go_ret
 exact ⟨rfl, HB2.out⟩
end Go.Proofs.YtffheegeaghfjaaGreatDoor

namespace Go.Proofs.YtffheegeaghfjaaGreatDoor
open Go.RowKit
theorem Da.ares_kill (b : Nat) (l : List (List UInt8)) (h : b ≠ 0) : Da.ares b l = [[], [], [], [], []] := by unfold Da.ares; rw [if_neg h]
theorem rready16_of (Z : Array Value) (hZ : Z = nil5.toArray) (hzs : ∀ w, Sem.run Tryz.prog (zeroValue 47) w = .ok (.agg Z) w) (hbu : Tryz.prog.built 47 [] = some Z)
    (k : List UInt8) (o : Option Addr) (c : Nat) (N : Int) (p : Pm15) (hok : p.ok) (w : World) (hK : RowIs w o (bytesV k) c) (hV : Rds w) (hkl : k.length <= 90000) :
    Calls Tryz.prog 17 #[.slice o k.length c, .int .i64 N, .agg (pmA p)] w fun e w' => ∃ xs : List Value, e = .returned (.tuple #[.agg xs.toArray, .int .i64 ((Da.rdy16 k N p : Nat) : Int)]) /\ Els w' (Da.ares (Da.rdy16 k N p) (Da.keysL k N)) xs /\ Below w.heap.size w w' := by
 obtain ⟨g, hg⟩ : ∃ g, w.heap.size = g := ⟨_, rfl⟩
 obtain ⟨W1, hW1⟩ : ∃ W1, w.alloc (.cells (pmA p) 41) = W1 := ⟨_, rfl⟩
 obtain ⟨W2, hW2⟩ : ∃ W2, W1.alloc (.cells Z 47) = W2 := ⟨_, rfl⟩
 have hs1 : W1.heap.size = g + 1 := by rw [<- hW1, World.size_alloc, hg]
 have hA1 : Arr W1 g 41 (pmL p) := by rw [<- hW1, <- hg]; exact World.alloc_heap_new w _
 have hb1 : Below w.heap.size w W1 := by rw [<- hW1]; exact new12 _ _
 have hA2 : Arr W2 (g + 1) 47 nil5 := by rw [<- hW2, <- hs1, hZ]; exact Arr.made _ _ _
 have hb2 : Below W1.heap.size W1 W2 := by rw [<- hW2]; exact new12 _ _
 have HP2 := Lh (hA1.later hb2 hA1.lt)
 have HA2 := Lh hA2
 have HB2 := Lh (Ks hb1 hb2)
 have HCK := Lh (rchk15_any p hok W2)
 have HZS : Hid ((Tryz.prog.info? 47).map (·.size) = some Z.size) := Lh (by rw [k5_info, hZ]; rfl)
 have HZO : Hid (Z.all (·.oneCell') = true) := Lh (by rw [hZ]; exact all_oneCell_toArray (fun v hv => by obtain ⟨a, b, c, rfl⟩ := nil5_slices v hv; rfl))
 have HBU := Lh hbu
 have HZ := Lh hZ
 have HG := Lh hg
 have HS1 := Lh hs1
 have HW1 := Lh hW1
 have HW2 := Lh hW2
 have HK := Lh hK
 have HV := Lh hV
 obtain ⟨P, hP⟩ : ∃ P, pmA p = P := ⟨_, rfl⟩
 rw [hP] at HCK HW1 ⊢
 have HP := Lh hP
 obtain ⟨E, hE⟩ : ∃ E : Nat, Da.err15 (Da.bad15 p) = E := ⟨_, rfl⟩
 rw [hE] at HCK
 have HEE := Lh hE
 obtain ⟨R, hR⟩ : ∃ R : Nat, Da.rdy16 k N p = R := ⟨_, rfl⟩
 rw [hR]
 have HRR := Lh hR
 have HE0 : Hid (E = 0 ↔ Da.bad15 p = 0) := Lh (by rw [<- hE]; exact Da.err15_zero (Da.bad15_le p))
 clear hg hW1 hW2 hs1 hA1 hb1 hA2 hb2 hok hK hV hZ hbu hP hE hR
 go_enter Tryz.func17, Tryz.ntmps17
 go_upto_region 1 with fail
 rw [HW1.out, HG.out, HW2.out]
 apply wp_region_lit
 refine wpList_load_row rfl 41 (.tmp 5) rfl g rfl 41 P (0, 0) _ (by rw [<- HP.out]; exact HP2.out) Tryz.underlying41 rfl (by rw [<- HP.out]; exact pm15_info) ?_
 (refine wpList_plain rfl (fun K hK => ?_); go_simp)
 refine HCK.out.mono ?_
 rintro e W3 ⟨rfl, hb3⟩
 refine hK _ _ ?_
 clear hK K HCK
 have HA3 := Lh (HA2.out.later hb3 HA2.out.lt)
 have HB3 := Lh (Ks HB2.out hb3)
 clear hb3
 unfold txt15
 iterate 7 (refine wpList_plain rfl (fun K hK => ?_); go_simp; refine hK _ _ ?_; clear hK K)
 by_cases h0 : Da.bad15 p = 0
 ·have e0 : E = 0 := HE0.out.2 h0
  subst e0
  have hrr : Da.abad (Da.isMas k.length) (Da.inR N) = R := by rw [<- HRR.out]; unfold Da.rdy16; rw [if_pos h0]
  have hal := rall9_any k o c N W3 (HK.out.later HB3.out) (HV.out.later HB3.out) hkl
  rw [hrr] at hal
  have HAL := Lh hal
  clear hal hrr h0
  go_upto_region 4 with fail
  apply wp_region_lit
  iterate 2 (refine wpList_plain rfl (fun K hK => ?_); go_simp; refine hK _ _ ?_; clear hK K)
  (refine wpList_plain rfl (fun K hK => ?_); go_simp)
  refine HAL.out.mono ?_
  rintro e W4 ⟨xs, rfl, hx, hb4⟩
  refine hK _ _ ?_
  clear hK K HAL
  obtain ⟨F, hF⟩ : ∃ F : Array Value, xs.toArray = F := ⟨_, rfl⟩
  have hxl : xs.length = 5 := by
   rw [hx.len]
   unfold Da.ares
   split <;> rfl
  have HFS : Hid ((Tryz.prog.info? 47).map (·.size) = some F.size) := Lh (by rw [k5_info, <- hF]; simp [hxl])
  have HFZ : Hid (Z.size = F.size) := Lh (by rw [HZ.out, <- hF]; simp [hxl]; rfl)
  have HFO : Hid (F.all (·.oneCell') = true) := Lh (by rw [<- hF]; exact all_oneCell_toArray hx.ones)
  have hA4 := HA3.out.later hb4 HA3.out.lt
  have HNZ : Hid (W4.heap[g + 1]? = some (.cells Z 47 (0, 0))) := Lh (by rw [HZ.out]; exact hA4)
  have HY : Hid ((W4.setRow (g + 1) F).heap[g + 1]? = some (.cells F 47 (0, 0))) := Lh (setRow_heap _ _ _ _ _ _ HNZ.out)
  have HBY : Hid (Below w.heap.size w (W4.setRow (g + 1) F)) := Lh ((Ks HB3.out hb4).trans (below_row (by have := HG.out; omega)))
  have HEY : Hid (Els (W4.setRow (g + 1) F) (Da.ares R (Da.keysL k N)) xs) := Lh (hx.putArr hA4 nil5_slices (grown_row _))
  have HF := Lh hF
  rw [hF]
  clear hx hb4 hF hxl hA4
  iterate 2 (refine wpList_plain rfl (fun K hK => ?_); go_simp; refine hK _ _ ?_; clear hK K)
  refine wpList_store_rowTo rfl 47 (.tmp 6) (.tmp 24) rfl rfl (g + 1) F rfl rfl 47 Z HNZ.out HFS.out HFZ.out HFO.out ?_
  go_wp2_with fail
  refine bodyPost_ret (res_ct rfl _ _ (g + 1) 47 F (0, 0) _ rfl HY.out k5_under rfl HFS.out) rfl ?_
  exact ⟨xs, by rw [HF.out]; rfl, HEY.out, HBY.out⟩
 ·have e0 : E ≠ 0 := fun h => h0 (HE0.out.1 h)
  have hrr : R = E := by rw [<- HRR.out, <- HEE.out]; unfold Da.rdy16; rw [if_neg h0]
  subst hrr
  have hn1 : ¬ (R : Int) = 0 := by omega
  have hn2 : ((R : Int) == 0) = false := beq_false_of_ne hn1
  have hn3 : ((R : Int) != 0) = true := by rw [bne_iff_ne]; exact hn1
  have HNZ : Hid (W3.heap[g + 1]? = some (.cells Z 47 (0, 0))) := Lh (by rw [HZ.out]; exact HA3.out)
  have HY : Hid ((W3.setRow (g + 1) Z).heap[g + 1]? = some (.cells Z 47 (0, 0))) := Lh (setRow_heap _ _ _ _ _ _ HNZ.out)
  have HBY : Hid (Below w.heap.size w (W3.setRow (g + 1) Z)) := Lh (HB3.out.trans (below_row (by have := HG.out; omega)))
  have HE1 := Lh e0
  clear h0 e0
  go_upto_region 3 with fail
  apply wp_region_lit
  refine wpList_built rfl 47 _ rfl [] (by simp) Z HBU.out ?_
  (refine wpList_plain rfl (fun K hK => ?_); go_simp; refine hK _ _ ?_; clear hK K)
  refine wpList_store_rowTo rfl 47 (.tmp 6) (.tmp 19) rfl rfl (g + 1) Z rfl rfl 47 Z HNZ.out HZS.out rfl HZO.out ?_
  go_wp2_with fail
  refine bodyPost_ret (res_ct rfl _ _ (g + 1) 47 Z (0, 0) _ rfl HY.out k5_under rfl HZS.out) rfl ?_
  exact ⟨nil5, by rw [HZ.out]; rfl, by rw [Da.ares_kill _ _ HE1.out]; exact els_nil5 _, HBY.out⟩
theorem rready16_any (k : List UInt8) (o : Option Addr) (c : Nat) (N : Int) (p : Pm15) (hok : p.ok) (w : World) (hK : RowIs w o (bytesV k) c) (hV : Rds w) (hkl : k.length <= 90000) :
    Calls Tryz.prog 17 #[.slice o k.length c, .int .i64 N, .agg (pmA p)] w fun e w' => ∃ xs : List Value, e = .returned (.tuple #[.agg xs.toArray, .int .i64 ((Da.rdy16 k N p : Nat) : Int)]) /\ Els w' (Da.ares (Da.rdy16 k N p) (Da.keysL k N)) xs /\ Below w.heap.size w w' :=
 rready16_of _ rfl k5_zero k5_built0 k o c N p hok w hK hV hkl
theorem rplace16_any (MK : List UInt8) (N : Int) (p : Pm15) (h0 : Da.Right15 p) (i : Nat) (hi : i < Da.n16 p) (xs : List Value) (w : World) (hx : Els w (Da.keysL MK N) xs) (hV : Rds w) :
    Calls Tryz.prog 22 #[.agg xs.toArray, .agg (pmA p), .int .i64 (i : Int)] w fun e w' => e = .returned (.int .i64 ((Da.to16 MK N p i : Nat) : Int)) /\ Below w.heap.size w w' := by
 obtain ⟨g, hg⟩ : ∃ g, w.heap.size = g := ⟨_, rfl⟩
 obtain ⟨XA, hXA⟩ : ∃ XA : Array Value, xs.toArray = XA := ⟨_, rfl⟩
 obtain ⟨PA, hPA⟩ : ∃ PA : Array Value, pmA p = PA := ⟨_, rfl⟩
 obtain ⟨W1, hW1⟩ : ∃ W1, w.alloc (.cells XA 47) = W1 := ⟨_, rfl⟩
 obtain ⟨W2, hW2⟩ : ∃ W2, W1.alloc (.cells PA 41) = W2 := ⟨_, rfl⟩
 have hs1 : W1.heap.size = g + 1 := by rw [<- hW1, World.size_alloc, hg]
 have hA1 : Arr W1 g 47 xs := by rw [<- hW1, <- hg, <- hXA]; exact Arr.made _ _ _
 have hb1 : Below w.heap.size w W1 := by rw [<- hW1]; exact new12 _ _
 have hb2 : Below W1.heap.size W1 W2 := by rw [<- hW2]; exact new12 _ _
 have hA2 : Arr W2 g 47 xs := hA1.later hb2 hA1.lt
 have hP2 : Arr W2 (g + 1) 41 (pmL p) := by rw [<- hW2, <- hs1, <- hPA]; exact Arr.made W1 _ (pmL p)
 have hb := Ks hb1 hb2
 obtain ⟨x1, hx1, hr1⟩ := hx.key16 1 (by omega)
 have hkl := Da.key16_length MK N 1 (by omega)
 obtain ⟨o1, c1, rfl, hro⟩ := hr1
 obtain ⟨L1, hL1⟩ : ∃ L1, (Da.key16 MK N 1).length = L1 := ⟨_, rfl⟩
 rw [hL1] at hx1
 have hn := Da.n16_le2 h0
 have HX1 : Hid (∀ v, Below W2.heap.size W2 v -> v.cell? ⟨g, 1, none⟩ = some (.slice o1 L1 c1)) := Lh fun v hv => by rw [(hA2.later hv hA2.lt).cell]; exact hx1
 have LP : Hid (∀ v, Below W2.heap.size W2 v -> v.rangeAt (g + 1) 0 (pmL p)) := Lh fun v hv => (hP2.later hv hP2.lt).range 0 _ (fun j u hu => by rw [Nat.zero_add]; exact hu)
 obtain ⟨n, hnn⟩ : ∃ n, Da.n16 p = n := ⟨_, rfl⟩
 obtain ⟨q, hq⟩ : ∃ q, Da.to16 MK N p i = q := ⟨_, rfl⟩
 have HST : Hid (∀ v, Below W2.heap.size W2 v -> Calls Tryz.prog 21 #[.agg PA] v fun e w' => e = .returned (.int .i64 (n : Int)) /\ Below W2.heap.size W2 w') := Lh fun v hv => by
  have h := rstored15_any p h0 v
  rw [Da.n16_int h0, hnn, hPA] at h
  exact h.mono fun e w' h => ⟨h.1, Ks hv h.2⟩
 have HTO : Hid (∀ v, Below W2.heap.size W2 v -> Calls Tryz.prog 43 #[.slice o1 L1 c1, .int .i64 (n : Int), .int .i64 (i : Int)] v fun e w' => e = .returned (.int .i64 (q : Int)) /\ Below W2.heap.size W2 w') := Lh fun v hv => by
  have h := rto_any (Da.key16 MK N 1) o1 c1 n (by omega) i (by omega) v (hro.later (Ks hb hv)) (hV.later (Ks hb hv)) (by omega)
  rw [hL1] at h
  have e : Da.pl (Da.son (Da.key16 MK N 1) (Da.bw n)) n (4 ^ Da.bw n) i = q := by rw [<- hq, <- hnn]; rfl
  rw [e] at h
  exact h.mono fun e w' h => ⟨h.1, Ks hv h.2⟩
 have HPI : Hid ((Tryz.prog.info? 41).map (·.size) = some (pmL p).length) := Lh pm15_info
 obtain ⟨PL, hPL⟩ : ∃ PL : List Value, pmL p = PL := ⟨_, rfl⟩
 have hpp : PL.toArray = PA := by rw [<- hPL, <- hPA]; rfl
 rw [hPL] at LP HPI
 subst hpp
 have HB := Lh hb
 have HW1 := Lh hW1
 have HW2 := Lh hW2
 have HG := Lh hg
 rw [hXA, hPA, hq]
 obtain ⟨CC, hC⟩ : ∃ CC : World -> Prop, (fun v => Below W2.heap.size W2 v) = CC := ⟨_, rfl⟩
 have hCm : ∀ v, CC v -> Below W2.heap.size W2 v := fun v hv => by rw [<- hC] at hv; exact hv
 have hCi : ∀ v, Below W2.heap.size W2 v -> CC v := fun v hv => by rw [<- hC]; exact hv
 have hC0 : CC { W2 with drawn := W2.drawn + 1 } := hCi _ (Kit.dn' W2 1)
 have HCm := Lh hCm
 have HCi := Lh hCi
 clear hC hCm hCi
 clear hg hXA hPA hW1 hW2 hs1 hA1 hb1 hb2 hA2 hP2 hb hx1 hkl hro hL1 hn hnn hq hPL hV hx h0 hi
 go_enter Tryz.func22, Tryz.ntmps22
 go_upto_region 1 with fail
 rw [HW1.out, HG.out, HW2.out]
 refine wp_region_quiet (C := CC) (by kernel_rfl) (by kernel_rfl) hC0 ?_
 simp only
 (refine wpQuiet_step (fun K hK => ?_); refine St.qk_val (x := ?_) (by rfl) (fun w hw => ?_) ?_; rotate_left; (· go_simp <;> with_reducible rfl); go_simp; refine hK _ ?_; clear hK K)
 (refine wpQuiet_step (fun K hK => ?_); refine St.qk_val (x := .slice o1 L1 c1) (by rfl) (fun w hw => by have hc := HX1.out w (HCm.out w hw); go_simp) ?_; go_simp; refine hK _ ?_; clear hK K)
 (refine wpQuiet_step (fun K hK => ?_); refine St.qk_val (x := .agg PL.toArray) (by rfl) (fun w hw => St.exec_load rfl rfl (PL) _ (LP.out w (HCm.out w hw)) Tryz.underlying41 rfl HPI.out) ?_; go_simp; refine hK _ ?_; clear hK K)
 (refine wpQuiet_step (fun K hK => ?_); refine St.qk_call (by rfl) 21 _ _ rfl #[.agg PL.toArray] (by go_simp) (fun w => by simp [go_sem]) (.int .i64 (n : Int)) (fun v hv => (HST.out v (HCm.out v hv)).mono (fun e w' h => ⟨h.1, HCi.out _ h.2⟩)) ?_; go_simp; refine hK _ ?_; clear hK K)
 (refine wpQuiet_step (fun K hK => ?_); refine St.qk_val (x := ?_) (by rfl) (fun w hw => ?_) ?_; rotate_left; (· go_simp <;> with_reducible rfl); go_simp; refine hK _ ?_; clear hK K)
 (refine wpQuiet_step (fun K hK => ?_); refine St.qk_call (by rfl) 43 _ _ rfl #[.slice o1 L1 c1, .int .i64 (n : Int), .int .i64 (i : Int)] (by go_simp) (fun w => by simp [go_sem]) (.int .i64 (q : Int)) (fun v hv => (HTO.out v (HCm.out v hv)).mono (fun e w' h => ⟨h.1, HCi.out _ h.2⟩)) ?_; go_simp; refine hK _ ?_; clear hK K)
 (refine wpQuiet_step (fun K hK => ?_); refine St.qk_val (x := ?_) (by rfl) (fun w hw => ?_) ?_; rotate_left; (· go_simp <;> with_reducible rfl); go_simp; refine hK _ ?_; clear hK K)
 refine wpQuiet_nil ?_
 intro W7 hW7
 go_wp2_with fail
 go_ret
 exact ⟨rfl, Ks HB.out (HCm.out _ hW7)⟩
theorem rsentinel16_any (MK : List UInt8) (N : Int) (p : Pm15) (h0 : Da.Right15 p) (j : Int) (hj0 : 0 <= j) (hj1 : j < p.se) (xs : List Value) (w : World) (hx : Els w (Da.keysL MK N) xs) (hV : Rds w) :
    Calls Tryz.prog 23 #[.agg xs.toArray, .agg (pmA p), .int .i64 j] w fun e w' => ∃ x, e = .returned (.tuple #[.int .i64 ((Da.jat16 MK N p j : Nat) : Int), x]) /\ RowV (Da.tg16 (Da.key16 MK N 3) ((Da.jat16 MK N p j : Nat) : Int) (Da.sb (Da.key16 MK N 2) j)) x w' /\ Below w.heap.size w w' := by
 obtain ⟨g, hg⟩ : ∃ g, w.heap.size = g := ⟨_, rfl⟩
 have hxl : xs.length = 5 := hx.len
 obtain ⟨XA, hXA⟩ : ∃ XA : Array Value, xs.toArray = XA := ⟨_, rfl⟩
 obtain ⟨PA, hPA⟩ : ∃ PA : Array Value, pmA p = PA := ⟨_, rfl⟩
 obtain ⟨W1, hW1⟩ : ∃ W1, w.alloc (.cells XA 47) = W1 := ⟨_, rfl⟩
 obtain ⟨W2, hW2⟩ : ∃ W2, W1.alloc (.cells PA 41) = W2 := ⟨_, rfl⟩
 have hs1 : W1.heap.size = g + 1 := by rw [<- hW1, World.size_alloc, hg]
 have hA1 : Arr W1 g 47 xs := by rw [<- hW1, <- hg, <- hXA]; exact Arr.made _ _ _
 have hb1 : Below w.heap.size w W1 := by rw [<- hW1]; exact new12 _ _
 have hb2 : Below W1.heap.size W1 W2 := by rw [<- hW2]; exact new12 _ _
 have hA2 : Arr W2 g 47 xs := hA1.later hb2 hA1.lt
 have hP2 : Arr W2 (g + 1) 41 (pmL p) := by rw [<- hW2, <- hs1, <- hPA]; exact Arr.made W1 _ (pmL p)
 have hb := Ks hb1 hb2
 have hx2' := hx.later hb
 obtain ⟨x2, hx2, hr2⟩ := hx2'.key16 2 (by omega)
 obtain ⟨x3, hx3, hr3⟩ := hx2'.key16 3 (by omega)
 have hk2 := Da.key16_length MK N 2 (by omega)
 have hk3 := Da.key16_length MK N 3 (by omega)
 have hn := Da.n16_le2 h0
 have hse := h0.e1
 have hC2 : W2.cell? ⟨g, 2, none⟩ = some x2 := by rw [hA2.cell]; exact hx2
 obtain ⟨o2, c2, rfl, hro2⟩ := hr2
 obtain ⟨L2, hL2⟩ : ∃ L2, (Da.key16 MK N 2).length = L2 := ⟨_, rfl⟩
 have hrb : Da.rb j = 0 := by
  unfold Da.rb Da.inR
  simp
  omega
 have hbk := rblk_any (Da.key16 MK N 2) o2 c2 j W2 hro2 (hV.later hb) (by omega)
 rw [hrb, hL2] at hbk
 rw [hL2] at hC2
 have HBK := Lh hbk
 have HA2 := Lh hA2
 have HP2 := Lh hP2
 have HX3 : Hid (xs[3]? = some x3) := Lh hx3
 have HR3 := Lh hr3
 have HEL := Lh hx2'
 have HXL := Lh hxl
 have HB := Lh hb
 have HV := Lh hV
 have HR0 := Lh h0
 have HJ : Hid (0 <= j /\ j < p.se /\ p.se <= 8) := Lh ⟨hj0, hj1, hse⟩
 have HN := Lh hn
 have HK3 := Lh hk3
 have HW1 := Lh hW1
 have HW2 := Lh hW2
 have HG := Lh hg
 have HXA := Lh hXA
 have HPA := Lh hPA
 rw [hXA, hPA]
 clear hg hXA hPA hW1 hW2 hs1 hA1 hb1 hb2 hA2 hP2 hb hx2 hx3 hr3 hx2' hk2 hk3 hn hse hL2 hrb hbk hro2 hV hx h0 hj0 hj1 hxl
 go_enter Tryz.func23, Tryz.ntmps23
 go_upto_region 1 with fail
 rw [HW1.out, HG.out, HW2.out]
 apply wp_region_lit
 iterate 3 (refine wpList_plain rfl (fun K hK => ?_); go_simp; refine hK _ _ ?_; clear hK K)
 (refine wpList_plain rfl (fun K hK => ?_); go_simp)
 refine HBK.out.mono ?_
 rintro e W3 ⟨xb, rfl, hxb, hb3⟩
 refine hK _ _ ?_
 clear hK K HBK hC2
 have hxb2 : RowV (Da.sb (Da.key16 MK N 2) j) xb W3 := hxb
 have HXB := Lh hxb2
 have HB3 := Lh (Ks HB.out hb3)
 have hA3 := HA2.out.later hb3 HA2.out.lt
 have hP3 := HP2.out.later hb3 HP2.out.lt
 have HR33 := Lh (HR3.out.later hb3)
 have hE3 := HEL.out.later hb3
 have LX : Hid (∀ v, Below W3.heap.size W3 v -> v.rangeAt g 0 xs) := Lh fun v hv => (hA3.later hv hA3.lt).range 0 _ (fun j u hu => by rw [Nat.zero_add]; exact hu)
 have LP : Hid (∀ v, Below W3.heap.size W3 v -> v.rangeAt (g + 1) 0 (pmL p)) := Lh fun v hv => (hP3.later hv hP3.lt).range 0 _ (fun j u hu => by rw [Nat.zero_add]; exact hu)
 have HSE : Hid (∀ v, Below W3.heap.size W3 v -> v.cell? ⟨g + 1, 1, none⟩ = some (.int .i64 p.se)) := Lh fun v hv => by rw [(hP3.later hv hP3.lt).cell]; rfl
 have HC3 : Hid (∀ v, Below W3.heap.size W3 v -> v.cell? ⟨g, 3, none⟩ = some x3) := Lh fun v hv => by rw [(hA3.later hv hA3.lt).cell]; exact HX3.out
 obtain ⟨n, hnn⟩ : ∃ n, Da.n16 p = n := ⟨_, rfl⟩
 obtain ⟨se, hse⟩ : ∃ se, p.se = se := ⟨_, rfl⟩
 obtain ⟨u, hu⟩ : ∃ u, Da.tot15 p.sz + j.toNat = u := ⟨_, rfl⟩
 have hns : Da.tot15 p.sz + p.se.toNat = n := by rw [<- hnn]; rfl
 have hun : u < Da.n16 p := by have := HJ.out; unfold Da.n16; omega
 obtain ⟨q, hq⟩ : ∃ q, Da.jat16 MK N p j = q := ⟨_, rfl⟩
 have hq2 : Da.to16 MK N p u = q := by rw [<- hq, <- hu]; rfl
 have HST : Hid (∀ v, Below W3.heap.size W3 v -> Calls Tryz.prog 21 #[.agg PA] v fun e w' => e = .returned (.int .i64 (n : Int)) /\ Below W3.heap.size W3 w') := Lh fun v hv => by
  have h := rstored15_any p HR0.out v
  rw [Da.n16_int HR0.out, hnn, HPA.out] at h
  exact h.mono fun e w' h => ⟨h.1, Ks hv h.2⟩
 have HPC : Hid (∀ v, Below W3.heap.size W3 v -> Calls Tryz.prog 22 #[.agg XA, .agg PA, .int .i64 (u : Int)] v fun e w' => e = .returned (.int .i64 (q : Int)) /\ Below W3.heap.size W3 w') := Lh fun v hv => by
  have h := rplace16_any MK N p HR0.out u hun xs v (hE3.later hv) (HV.out.later (Ks HB3.out hv))
  rw [hq2, HPA.out, HXA.out] at h
  exact h.mono fun e w' h => ⟨h.1, Ks hv h.2⟩
 have w1 : IntKind.i64.wrap ((n : Int) - se) = (n : Int) - se := by have := HJ.out; have := HN.out; rw [IntKind.wrap_i64]; omega
 have w2 : IntKind.i64.wrap ((n : Int) - se + j) = (u : Int) := by have := HJ.out; have := HN.out; rw [IntKind.wrap_i64]; omega
 have HXI : Hid ((Tryz.prog.info? 47).map (·.size) = some xs.length) := Lh (by rw [k5_info, HXL.out])
 have HPI : Hid ((Tryz.prog.info? 41).map (·.size) = some (pmL p).length) := Lh pm15_info
 obtain ⟨PL, hPL⟩ : ∃ PL : List Value, pmL p = PL := ⟨_, rfl⟩
 have hpp : PL.toArray = PA := by rw [<- hPL, <- HPA.out]; rfl
 have hxx := HXA.out
 rw [hPL] at LP HPI
 rw [hse] at HSE
 have HQ := Lh hq
 subst hpp
 subst hxx
 obtain ⟨CC, hC⟩ : ∃ CC : World -> Prop, (fun v => Below W3.heap.size W3 v) = CC := ⟨_, rfl⟩
 have hCm : ∀ v, CC v -> Below W3.heap.size W3 v := fun v hv => by rw [<- hC] at hv; exact hv
 have hCi : ∀ v, Below W3.heap.size W3 v -> CC v := fun v hv => by rw [<- hC]; exact hv
 have hC0 : CC { W3 with drawn := W3.drawn + 1 } := hCi _ (Kit.dn' W3 1)
 have HCm := Lh hCm
 have HCi := Lh hCi
 clear hC hCm hCi
 clear hxb hxb2 hb3 hA3 hP3 hE3 hnn hse hu hns hun hq hq2 hPL
 iterate 5 (refine wpList_plain rfl (fun K hK => ?_); go_simp; refine hK _ _ ?_; clear hK K)
 go_upto_region 2 with fail
 refine wp_region_quiet (C := CC) (by kernel_rfl) (by kernel_rfl) hC0 ?_
 simp only
 (refine wpQuiet_step (fun K hK => ?_); refine St.qk_val (x := .agg xs.toArray) (by rfl) (fun w hw => St.exec_load rfl rfl (xs) _ (LX.out w (HCm.out w hw)) k5_under rfl HXI.out) ?_; go_simp; refine hK _ ?_; clear hK K)
 iterate 2 (refine wpQuiet_step (fun K hK => ?_); refine St.qk_val (x := .agg PL.toArray) (by rfl) (fun w hw => St.exec_load rfl rfl (PL) _ (LP.out w (HCm.out w hw)) Tryz.underlying41 rfl HPI.out) ?_; go_simp; refine hK _ ?_; clear hK K)
 (refine wpQuiet_step (fun K hK => ?_); refine St.qk_call (by rfl) 21 _ _ rfl #[.agg PL.toArray] (by go_simp) (fun w => by simp [go_sem]) (.int .i64 (n : Int)) (fun v hv => (HST.out v (HCm.out v hv)).mono (fun e w' h => ⟨h.1, HCi.out _ h.2⟩)) ?_; go_simp; refine hK _ ?_; clear hK K)
 (refine wpQuiet_step (fun K hK => ?_); refine St.qk_val (x := ?_) (by rfl) (fun w hw => ?_) ?_; rotate_left; (· go_simp <;> with_reducible rfl); go_simp; refine hK _ ?_; clear hK K)
 (refine wpQuiet_step (fun K hK => ?_); refine St.qk_val (x := .int .i64 se) (by rfl) (fun w hw => by have hc := HSE.out w (HCm.out w hw); go_simp) ?_; go_simp; refine hK _ ?_; clear hK K)
 iterate 3 (refine wpQuiet_step (fun K hK => ?_); refine St.qk_val (x := ?_) (by rfl) (fun w hw => ?_) ?_; rotate_left; (· go_simp <;> with_reducible rfl); go_simp; refine hK _ ?_; clear hK K)
 (refine wpQuiet_step (fun K hK => ?_); refine St.qk_call (by rfl) 22 _ _ rfl #[.agg xs.toArray, .agg PL.toArray, .int .i64 (u : Int)] (by go_simp) (fun w => by simp [go_sem]) (.int .i64 (q : Int)) (fun v hv => (HPC.out v (HCm.out v hv)).mono (fun e w' h => ⟨h.1, HCi.out _ h.2⟩)) ?_; go_simp; refine hK _ ?_; clear hK K)
 (refine wpQuiet_step (fun K hK => ?_); refine St.qk_val (x := ?_) (by rfl) (fun w hw => ?_) ?_; rotate_left; (· go_simp <;> with_reducible rfl); go_simp; refine hK _ ?_; clear hK K)
 refine wpQuiet_nil ?_
 intro W7 hW7
 have hb7 := HCm.out _ hW7
 have HB7 := Lh (Ks HB3.out hb7)
 have hc3 := HC3.out W7 hb7
 have HT := Lh (rtag16_rv (n := (q : Int)) (HR33.out.later hb7) (HXB.out.later hb7) (HV.out.later HB7.out) (by have := HK3.out; omega) (by rw [Da.sb_length]; omega))
 clear hW7 hb7 w1 w2
 go_wp2_with fail
 refine HT.out.mono ?_
 rintro e W8 ⟨r, rfl, hr, hb8⟩
 go_wp2_with fail
 go_ret2
 rw [HQ.out]
 exact ⟨r, rfl, hr, Ks HB7.out hb8⟩
end Go.Proofs.YtffheegeaghfjaaGreatDoor
