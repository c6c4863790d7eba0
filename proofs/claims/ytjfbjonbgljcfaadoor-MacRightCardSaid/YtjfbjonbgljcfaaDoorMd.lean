/- Macs: the code's Of (a key's, and of bytes). -/
import Derived.Test.YtjfbjonbgljcfaaDoorMc
namespace Go.Proofs.YtjfbjonbgljcfaaDoor
open Go.RowKit
set_option linter.unusedVariables false
set_option linter.unusedSimpArgs false
/-- two parts -/
theorem two_parts {w : World} {a1 a2 : Option Addr} {c1 c2 : Nat} {x y : List UInt8} (h1 : RowIs w a1 (bytesV x) c1) (h2 : RowIs w a2 (bytesV y) c2) :
    RbIs (w.alloc (.cells #[.slice a1 x.length c1, .slice a2 y.length c2] 22)) (some ⟨w.heap.size, 0, none⟩) [x, y] 2 :=
  have hA : Arr (w.alloc (.cells #[.slice a1 x.length c1, .slice a2 y.length c2] 22)) w.heap.size 22 [.slice a1 x.length c1, .slice a2 y.length c2] := Arr.made _ _ _
  have hb : Below w.heap.size w (w.alloc (.cells #[.slice a1 x.length c1, .slice a2 y.length c2] 22)) := (Below.refl _ _).alloc (Nat.le_refl _) _
  ⟨[.slice a1 x.length c1, .slice a2 y.length c2], ⟨by simp, by unfold maxLen; decide, fun h => by (cases h), fun h0 => ⟨w.heap.size, 0, rfl, hA.lt, fun i v hv => by rw [Nat.zero_add, hA.cell]; exact hv⟩⟩,
    (Els.one ⟨a1, c1, rfl, h1.later hb⟩).app (Els.one ⟨a2, c2, rfl, h2.later hb⟩)⟩
def Of2 (P : List UInt8) (bs : List (List UInt8)) (g : Nat) (w : World) (i : Value) (wr : World) : Prop :=
  ∃ n : Nat, n ≤ bs.length ∧ i = .int .i64 n ∧ Hash wr (g + 1) (P ++ (bs.take n).flatten) ∧ Arr wr g 31 (bytesV (List.replicate 32 0)) ∧ Below w.heap.size w wr
set_option maxRecDepth 100000 in
set_option maxHeartbeats 1000000 in
theorem kof_of (Z : Array Value) (hZ : Z = (bytesV (List.replicate 32 0)).toArray) (hzs : ∀ w, Sem.run Tryd.prog (zeroValue 31) w = .ok (.agg Z) w)
    (k : List UInt8) (hk : k.length = 64) (b : Nat) (bs : List (List UInt8)) (o : Option Addr) (c : Nat) (w : World) (hA : Arr w b 41 (bytesV k))
    (hR : RbIs w o bs c) (hV : Cds w) (hl : bs.flatten.length ≤ 800000) (hn : bs.length ≤ 1000000) :
    Calls Tryd.prog 11 #[.pointer (some ⟨b, 0, none⟩), .slice o bs.length c] w fun e w' => e = .returned (.agg (bytesV (Da.sha (Da.xk k 92 ++ Da.sha (Da.xk k 54 ++ bs.flatten)))).toArray) ∧ Below w.heap.size w w' := by
  obtain ⟨g, hg⟩ : ∃ g, w.heap.size = g := ⟨_, rfl⟩
  obtain ⟨W1, hW1⟩ : ∃ W1, w.alloc (Obj.cells Z 31) = W1 := ⟨_, rfl⟩
  have hb1 : Below w.heap.size w W1 := by rw [← hW1]; exact (Below.refl _ _).alloc (Nat.le_refl _) _
  have hs1 : W1.heap.size = g + 1 := by rw [← hW1, World.size_alloc, hg]
  have hR1 : Arr W1 g 31 (bytesV (List.replicate 32 0)) := by rw [← hW1, hZ, ← hg]; exact Arr.made _ _ _
  have HR := Lib.hid hR
  have HA := Lib.hid hA
  have HK := Lib.hid hk
  have HV := Lib.hid hV
  have HW1 := Lib.hid hW1
  have HB1 := Lib.hid hb1
  have HR1 := Lib.hid hR1
  have HS1 := Lib.hid hs1
  have HG := Lib.hid hg
  have HZ := Lib.hid hZ
  clear hR hV hW1 hb1 hs1 hR1 hg hZ hA hk
  obtain ⟨P, hP⟩ : ∃ P, Da.xk k 54 = P := ⟨_, rfl⟩
  have HPL : Hid (P.length = 64) := Lib.hid (by rw [← hP, Da.xk_length]; exact HK.out)
  have HP := Lib.hid hP
  clear hP
  go_enter Tryd.func11, Tryd.ntmps11
  go_upto_region 1 with fail
  rw [HW1.out, HG.out]
  apply wp_region_lit
  (refine wpList_plain rfl (fun K hK => ?_); go_simp)
  refine (new_any W1).mono ?_
  rintro e W2 ⟨rfl, hh2, hb2, hs2⟩
  refine hK _ _ ?_
  clear hK K
  rw [HS1.out] at hh2 hs2 ⊢
  have HH2 := Lib.hid hh2
  have HR2 : Hid (Arr W2 g 31 (bytesV (List.replicate 32 0))) := Lib.hid (HR1.out.later hb2 HR1.out.lt)
  have HB2 : Hid (Below w.heap.size w W2) := Lib.hid (Kit.step HB1.out hb2)
  have HS2 := Lib.hid hs2
  clear hh2 hb2 hs2 HW1 HB1 HR1
  (refine wpList_plain rfl (fun K hK => ?_); go_simp; refine hK _ _ ?_; clear hK K)
  (refine wpList_plain rfl (fun K hK => ?_); go_simp)
  refine (with_any k HK.out 54 b W2 (HA.out.later HB2.out HA.out.lt)).mono ?_
  rintro e W3 ⟨rfl, hr3, hb3⟩
  refine hK _ _ ?_
  clear hK K
  rw [HP.out] at hr3
  have PU : Hid (Calls Tryd.prog 19 #[.pointer (some ⟨g + 1, 0, none⟩), .slice (some ⟨W2.heap.size, 0, none⟩) 64 64] W3 fun e w' => e = .returned (.pointer (some ⟨g + 1, 0, none⟩)) ∧ Hash w' (g + 1) P ∧ W3.grownBy w' (some (g + 1))) := Lib.hid (by
    have hcd := (HV.out.later HB2.out).later hb3
    have hrow := hr3.row (by rw [HPL.out]; unfold maxLen; decide)
    rw [HPL.out] at hrow
    have := put_any (g + 1) [] P (some ⟨W2.heap.size, 0, none⟩) 64 W3 (HH2.out.kept (grown_below (B := 0) (row := none) hb3) (fun e => by cases e)) hrow (fun h0 ad e => by cases e; show W2.heap.size ≠ g + 1; rw [HS2.out]; omega) (HV.out.ne (by rw [HG.out]; omega)) hcd.cubes hcd.begins (by rw [HPL.out]; decide)
    rw [HPL.out] at this
    exact this)
  have HB3 : Hid (Below w.heap.size w W3) := Lib.hid (Kit.step HB2.out hb3)
  have HR3 : Hid (Arr W3 g 31 (bytesV (List.replicate 32 0))) := Lib.hid (HR2.out.later hb3 HR2.out.lt)
  clear hr3 hb3 HH2 HR2 HB2
  (refine wpList_plain rfl (fun K hK => ?_); go_simp)
  refine PU.out.mono ?_
  rintro e W4 ⟨rfl, hh, hgr⟩
  refine hK _ _ ?_
  clear hK K
  have HX : Hid (Of2 P bs g w (.int .i64 0) W4) := Lib.hid ⟨0, Nat.zero_le _, rfl, by simpa using hh, HR3.out.kept hgr (fun e => by cases e), below_grown HB3.out hgr (by have := HG.out; omega) HB3.out.size⟩
  clear hh hgr PU HB3 HR3
  go_wp2_with fail
  go_loopw [15] (fun i wr => Of2 P bs g w i wr) (fun i _ => bs.length - (intOf i).toNat)
  case atStart => exact HX.out
  case round =>
    rename World => X1
    obtain ⟨n, hn', rfl, hH1, hR1, hB1⟩ := hrel
    by_cases hlt : n < bs.length
    · have hd1 : decide ((n : Int) < (bs.length : Int)) = true := by simpa using hlt
      obtain ⟨b1, off1, p1, q1, rfl, hb1, hcell, hrow⟩ := (HR.out.later hB1).cell n hlt
      have hrw := HR.out.cell n hlt
      have PU : Hid (Calls Tryd.prog 19 #[.pointer (some ⟨g + 1, 0, none⟩), .slice p1 (bi bs n).length q1] X1 fun e w' => e = .returned (.pointer (some ⟨g + 1, 0, none⟩)) ∧ Hash w' (g + 1) (P ++ (bs.take n).flatten ++ bi bs n) ∧ X1.grownBy w' (some (g + 1))) := Lib.hid (by
        have hcd := HV.out.later hB1
        refine put_any (g + 1) (P ++ (bs.take n).flatten) (bi bs n) p1 q1 X1 hH1 hrow (fun h0 ad e => ?_) (HV.out.ne (by have := HG.out; omega)) hcd.cubes hcd.begins ?_
        · obtain ⟨b2, off2, p2, q2, e2, hb2, hcell2, hrow2⟩ := hrw
          cases e2
          rw [hB1.cell (p := ⟨b1, off1 + n, none⟩) hb2] at hcell
          rw [hcell] at hcell2
          cases hcell2
          obtain ⟨b3, off3, e3, hb3, _⟩ := hrow2.cells (by simpa using h0)
          rw [e] at e3
          cases e3
          show b3 ≠ g + 1
          have := HG.out; omega
        · have := flat_step bs n hlt
          have h2 := flat_le bs (n + 1)
          rw [this, List.length_append] at h2
          rw [List.length_append, HPL.out]
          omega)
      have HFS : Hid (P ++ (bs.take (n + 1)).flatten = P ++ (bs.take n).flatten ++ bi bs n) := Lib.hid (by rw [flat_step bs n hlt, List.append_assoc])
      have HH1 := Lib.hid hH1
      have HR1 := Lib.hid hR1
      have HB1 := Lib.hid hB1
      clear hH1 hR1 hB1 hrow hrw
      go_wp2_with fail
      refine PU.out.mono ?_
      rintro e X2 ⟨rfl, hh, hgr⟩
      have HX : Hid (Of2 P bs g w (.int .i64 ((n : Int) + 1)) X2) := Lib.hid ⟨n + 1, by omega, by go_num, by rw [HFS.out]; exact hh, HR1.out.kept hgr (fun e => by cases e), below_grown HB1.out hgr (by have := HG.out; omega) HB1.out.size⟩
      clear hh hgr PU
      go_wp2_with fail
      exact ⟨HX.out, by simp [intOf]; omega⟩
    · obtain rfl : n = bs.length := by omega
      rw [List.take_length] at hH1
      obtain ⟨I, hI⟩ : ∃ I, Da.sha (P ++ bs.flatten) = I := ⟨_, rfl⟩
      have hIl : I.length = 32 := by rw [← hI]; exact Da.sha_length _
      have SU : Hid (Calls Tryd.prog 21 #[.pointer (some ⟨g + 1, 0, none⟩)] X1 fun e w' => e = .returned (.agg (bytesV I).toArray) ∧ Below X1.heap.size X1 w') := Lib.hid (by
        rw [← hI]
        exact hsum_any (g + 1) _ X1 hH1 (HV.out.later hB1) (by rw [List.length_append, HPL.out]; omega))
      obtain ⟨F, hF⟩ : ∃ F, (bytesV I).toArray = F := ⟨_, rfl⟩
      rw [hF] at SU
      have HRS : Hid ((Tryd.prog.info? 31).map (·.size) = some F.size) := Lib.hid (by rw [dg_info, ← hF]; simp [hIl])
      have HRO : Hid (F.all (·.oneCell') = true) := Lib.hid (by rw [← hF]; exact all_oneCell_toArray (bytesV_one _))
      have HRZ : Hid (Z.size = F.size) := Lib.hid (by rw [HZ.out, ← hF]; simp [hIl])
      have HF := Lib.hid hF
      have HI := Lib.hid hI
      have HIL := Lib.hid hIl
      have HR1 := Lib.hid hR1
      have HB1 := Lib.hid hB1
      clear hH1 hR1 hB1 hF hI hIl HX
      go_upto_region 7 with fail
      apply wp_region_lit
      (refine wpList_plain rfl (fun K hK => ?_); go_simp; refine hK _ _ ?_; clear hK K)
      (refine wpList_plain rfl (fun K hK => ?_); go_simp)
      refine SU.out.mono ?_
      rintro e X2 ⟨rfl, hb⟩
      refine hK _ _ ?_
      clear hK K
      obtain ⟨X3, hX3⟩ : ∃ X3, X2.alloc (.cells Z 31) = X3 := ⟨_, rfl⟩
      obtain ⟨X4, hX4⟩ : ∃ X4, X3.setRow X2.heap.size F = X4 := ⟨_, rfl⟩
      have hA3 : Arr X3 X2.heap.size 31 Z.toList := by rw [← hX3]; exact Arr.made _ _ _
      have hA4 : Arr X4 X2.heap.size 31 (bytesV I) := by rw [← hX4, ← HF.out]; exact setRow_heap _ _ _ _ _ _ hA3
      have hb4 : Below X2.heap.size X2 X4 := by rw [← hX4, ← hX3]; exact ((Below.refl _ _).alloc (Nat.le_refl _) _).trans (below_row (Nat.le_refl _))
      have hR4 := (HR1.out.later hb HR1.out.lt).later hb4 (Nat.lt_of_lt_of_le HR1.out.lt hb.size)
      have hB4 := Kit.step (Kit.step HB1.out hb) hb4
      have HA3 : Hid (X3.heap[X2.heap.size]? = some (.cells Z 31 (0, 0))) := Lib.hid hA3
      have HA4 := Lib.hid hA4
      have HR4 := Lib.hid hR4
      have HB4 := Lib.hid hB4
      have HX3 := Lib.hid hX3
      have HX4 := Lib.hid hX4
      clear hX3 hX4 hA3 hA4 hb4 hR4 hB4 hb SU HB1 HR1
      (refine wpList_plain rfl (fun K hK => ?_); go_simp; refine hK _ _ ?_; clear hK K)
      rw [HX3.out]
      refine wpList_store_row rfl 31 (.tmp 8) (.tmp 24) rfl X2.heap.size F rfl rfl 31 Z HA3.out HRS.out HRZ.out HRO.out ?_
      rw [HX4.out]
      go_upto_region 8 with fail
      have WI : Hid (Calls Tryd.prog 20 #[.pointer (some ⟨b, 0, none⟩), .int .u8 92] X4.drew fun e w' => e = .returned (.slice (some ⟨X4.heap.size, 0, none⟩) 64 64) ∧ Arr w' X4.heap.size 39 (bytesV (Da.xk k 92)) ∧ Below X4.drew.heap.size X4.drew w') :=
        Lib.hid (with_any k HK.out 92 b X4.drew ((HA.out.later HB4.out HA.out.lt).drew))
      clear HX3 HX4
      refine wp_region_any (by kernel_rfl) ?_
      change wpAny _ _ _ _ _ _ _ (World.drew _)
      refine wpAny_take (i := 0) (v := ?va1) rfl (by kernel_rfl) (by kernel_rfl) (by kernel_rfl) (fun _ _ _ h => h) (Or.inl ⟨by rfl, ?ha1⟩) ?ra1
      case ha1 => (intro w; (go_simp <;> with_reducible rfl))
      refine wpAny_take (i := 2) (v := ?va2) rfl (by kernel_rfl) (by kernel_rfl) (by kernel_rfl) (fun _ _ _ h => h) (Or.inl ⟨by rfl, ?ha2⟩) ?ra2
      case ha2 => (intro w; (go_simp <;> with_reducible rfl))
      refine wpAny_ready (rs := [1]) (by kernel_rfl) (by simp) ?_
      refine AllReady.cons rfl (fun K hK => ?_) AllReady.nil
      go_simp
      refine WI.out.mono ?_
      rintro e X5 ⟨rfl, hr5, hb5⟩
      refine hK _ _ ?_
      clear hK K WI
      have hA5 : Arr X5 X2.heap.size 31 (bytesV I) := HA4.out.drew.later hb5 HA4.out.lt
      have hR5 : Arr X5 g 31 (bytesV (List.replicate 32 0)) := HR4.out.drew.later hb5 HR4.out.lt
      have hB5 : Below w.heap.size w X5 := Kit.step (Kit.dn HB4.out 1) hb5
      have hrow1 := hr5.row (by rw [Da.xk_length, HK.out]; unfold maxLen; decide)
      rw [Da.xk_length, HK.out] at hrow1
      have hrow2 := hA5.row (by rw [HIL.out]; unfold maxLen; decide)
      rw [HIL.out] at hrow2
      obtain ⟨X6, hX6⟩ : ∃ X6, X5.alloc (.cells #[.slice (some ⟨X4.heap.size, 0, none⟩) 64 64, .slice (some ⟨X2.heap.size, 0, none⟩) 32 32] 22) = X6 := ⟨_, rfl⟩
      have hR6 : RbIs X6 (some ⟨X5.heap.size, 0, none⟩) [Da.xk k 92, I] 2 := by
        have := two_parts hrow1 hrow2
        rw [Da.xk_length, HK.out, HIL.out, hX6] at this
        exact this
      have hb6 : Below X5.heap.size X5 X6 := by rw [← hX6]; exact (Below.refl _ _).alloc (Nat.le_refl _) _
      have hB6 := Kit.step hB5 hb6
      have SO : Hid (Calls Tryd.prog 16 #[.slice (some ⟨X5.heap.size, 0, none⟩) 2 2] X6 fun e w' => e = .returned (.agg (bytesV (Da.sha (Da.xk k 92 ++ I))).toArray) ∧ Below X6.heap.size X6 w') := Lib.hid (by
        have := sof_any [Da.xk k 92, I] (some ⟨X5.heap.size, 0, none⟩) 2 X6 hR6 (HV.out.later hB6) (by simp [Da.xk_length, HK.out, HIL.out]) (by simp)
        rw [show ([Da.xk k 92, I] : List (List UInt8)).flatten = Da.xk k 92 ++ I by simp] at this
        exact this)
      have HX6 := Lib.hid hX6
      have HR6 := Lib.hid (hR5.later hb6 hR5.lt)
      have HB6 := Lib.hid hB6
      clear hA5 hR5 hB5 hrow1 hrow2 hX6 hR6 hb6 hB6 hr5 hb5
      refine wpAny_ready (rs := [3]) (by kernel_rfl) (by simp) ?_
      refine AllReady.cons rfl (fun K hK => ?_) AllReady.nil
      go_simp
      rw [HX6.out]
      refine hK _ _ ?_
      clear hK K
      refine wpAny_ready (rs := [4]) (by kernel_rfl) (by simp) ?_
      refine AllReady.cons rfl (fun K hK => ?_) AllReady.nil
      go_simp
      obtain ⟨E, hE⟩ : ∃ E, (bytesV (Da.sha (Da.xk k 92 ++ I))).toArray = E := ⟨_, rfl⟩
      rw [hE] at SO
      have HES : Hid ((Tryd.prog.info? 31).map (·.size) = some E.size) := Lib.hid (by rw [dg_info, ← hE]; simp [Da.sha_length])
      have HEO : Hid (E.all (·.oneCell') = true) := Lib.hid (by rw [← hE]; exact all_oneCell_toArray (bytesV_one _))
      have HEZ : Hid ((bytesV (List.replicate 32 0)).toArray.size = E.size) := Lib.hid (by rw [← hE]; simp [Da.sha_length])
      have HE := Lib.hid hE
      clear hE
      refine SO.out.mono ?_
      rintro e X7 ⟨rfl, hb7⟩
      refine hK _ _ ?_
      clear hK K SO
      have hR7 := HR6.out.later hb7 HR6.out.lt
      have HL7 : Hid (X7.heap[g]? = some (.cells (bytesV (List.replicate 32 0)).toArray 31 (0, 0))) := Lib.hid hR7
      have HGW : Hid ((X7.setRow g E).heap[g]? = some (.cells E 31 (0, 0))) := Lib.hid (setRow_heap _ _ _ _ _ _ hR7)
      have HBW : Hid (Below w.heap.size w (X7.setRow g E)) := Lib.hid ((Kit.step HB6.out hb7).trans (below_row (Nat.le_of_eq HG.out)))
      clear hb7 hR7
      refine wpAny_ready (rs := [5]) (by kernel_rfl) (by simp) ?_
      refine AllReady.cons rfl (fun K hK => ?_) AllReady.nil
      rw [if_pos (by rfl)]
      refine wp_store_row 31 (.tmp 4) (.tmp 29) rfl g E rfl rfl 31 (bytesV (List.replicate 32 0)).toArray HL7.out HES.out HEZ.out HEO.out (hK _ _ ?_)
      clear hK K
      refine wpAny_done (by kernel_rfl) ?_ _
      go_wp2_with fail
      refine bodyPost_ret (results_cell_row rfl _ _ g 31 E (0, 0) _ rfl HGW.out dg_under rfl HES.out) rfl ?_
      exact ⟨by rw [← HE.out, ← HI.out, ← HP.out], HBW.out⟩
theorem kof_any (k : List UInt8) (hk : k.length = 64) (b : Nat) (bs : List (List UInt8)) (o : Option Addr) (c : Nat) (w : World) (hA : Arr w b 41 (bytesV k))
    (hR : RbIs w o bs c) (hV : Cds w) (hl : bs.flatten.length ≤ 800000) (hn : bs.length ≤ 1000000) :
    Calls Tryd.prog 11 #[.pointer (some ⟨b, 0, none⟩), .slice o bs.length c] w fun e w' => e = .returned (.agg (bytesV (Da.sha (Da.xk k 92 ++ Da.sha (Da.xk k 54 ++ bs.flatten)))).toArray) ∧ Below w.heap.size w w' :=
  kof_of _ rfl dg_zero k hk b bs o c w hA hR hV hl hn
theorem kofh_any (k : List UInt8) (b : Nat) (bs : List (List UInt8)) (o : Option Addr) (c : Nat) (w : World) (hA : Arr w b 41 (bytesV (Da.fil k)))
    (hR : RbIs w o bs c) (hV : Cds w) (hl : bs.flatten.length ≤ 800000) (hn : bs.length ≤ 1000000) :
    Calls Tryd.prog 11 #[.pointer (some ⟨b, 0, none⟩), .slice o bs.length c] w fun e w' => e = .returned (.agg (bytesV (Da.hmac k bs.flatten)).toArray) ∧ Below w.heap.size w w' :=
  kof_any _ (Da.fil_length k) b bs o c w hA hR hV hl hn
set_option maxRecDepth 100000 in
set_option maxHeartbeats 1000000 in
theorem mof_of (Z : Array Value) (hZ : Z = (bytesV (List.replicate 32 0)).toArray) (hzs : ∀ w, Sem.run Tryd.prog (zeroValue 31) w = .ok (.agg Z) w)
    (k : List UInt8) (ok : Option Addr) (ck : Nat) (bs : List (List UInt8)) (o : Option Addr) (c : Nat) (w : World) (hK : RowIs w ok (bytesV k) ck)
    (hR : RbIs w o bs c) (hV : Cds w) (hkl : k.length ≤ 900000) (hl : bs.flatten.length ≤ 800000) (hn : bs.length ≤ 1000000) :
    Calls Tryd.prog 10 #[.slice ok k.length ck, .slice o bs.length c] w fun e w' => e = .returned (.agg (bytesV (Da.hmac k bs.flatten)).toArray) ∧ Below w.heap.size w w' := by
  obtain ⟨g, hg⟩ : ∃ g, w.heap.size = g := ⟨_, rfl⟩
  obtain ⟨W1, hW1⟩ : ∃ W1, w.alloc (Obj.cells Z 31) = W1 := ⟨_, rfl⟩
  have hb1 : Below w.heap.size w W1 := by rw [← hW1]; exact (Below.refl _ _).alloc (Nat.le_refl _) _
  have hR1 : Arr W1 g 31 (bytesV (List.replicate 32 0)) := by rw [← hW1, hZ, ← hg]; exact Arr.made _ _ _
  have HMK := Lib.hid (kmake_any k ok ck W1 (hK.later hb1) (hV.later hb1) hkl)
  obtain ⟨E, hE⟩ : ∃ E, (bytesV (Da.hmac k bs.flatten)).toArray = E := ⟨_, rfl⟩
  have HES : Hid ((Tryd.prog.info? 31).map (·.size) = some E.size) := Lib.hid (by rw [dg_info, ← hE]; simp [Da.hmac_length])
  have HEO : Hid (E.all (·.oneCell') = true) := Lib.hid (by rw [← hE]; exact all_oneCell_toArray (bytesV_one _))
  have HEZ : Hid ((bytesV (List.replicate 32 0)).toArray.size = E.size) := Lib.hid (by rw [← hE]; simp [Da.hmac_length])
  have HE := Lib.hid hE
  have HR := Lib.hid hR
  have HV := Lib.hid hV
  have HW1 := Lib.hid hW1
  have HB1 := Lib.hid hb1
  have HR1 := Lib.hid hR1
  have HG := Lib.hid hg
  clear hR hV hW1 hb1 hR1 hg hZ hK hE
  go_enter Tryd.func10, Tryd.ntmps10
  go_upto_region 1 with fail
  rw [HW1.out, HG.out]
  apply wp_region_lit
  (refine wpList_plain rfl (fun K hK => ?_); go_simp; refine hK _ _ ?_; clear hK K)
  (refine wpList_plain rfl (fun K hK => ?_); go_simp)
  refine HMK.out.mono ?_
  rintro e W2 ⟨rfl, ha2, hb2⟩
  refine hK _ _ ?_
  clear hK K
  have HR2 := Lib.hid (HR1.out.later hb2 HR1.out.lt)
  have HB2 := Lib.hid (Kit.step HB1.out hb2)
  have KO := Lib.hid (kofh_any k W1.heap.size bs o c W2 ha2 (HR.out.later HB2.out) (HV.out.later HB2.out) hl hn)
  rw [HE.out] at KO
  clear hb2 ha2 HR1 HMK
  (refine wpList_plain rfl (fun K hK => ?_); go_simp; refine hK _ _ ?_; clear hK K)
  (refine wpList_plain rfl (fun K hK => ?_); go_simp)
  refine KO.out.mono ?_
  rintro e W3 ⟨rfl, hb3⟩
  refine hK _ _ ?_
  clear hK K
  have hR3 := HR2.out.later hb3 HR2.out.lt
  have HL3 : Hid (W3.heap[g]? = some (.cells (bytesV (List.replicate 32 0)).toArray 31 (0, 0))) := Lib.hid hR3
  have HGW : Hid ((W3.setRow g E).heap[g]? = some (.cells E 31 (0, 0))) := Lib.hid (setRow_heap _ _ _ _ _ _ hR3)
  have HBW : Hid (Below w.heap.size w (W3.setRow g E)) := Lib.hid ((Kit.step HB2.out hb3).trans (below_row (Nat.le_of_eq HG.out)))
  clear hb3 hR3 KO
  refine wpList_store_row rfl 31 (.tmp 4) (.tmp 8) rfl g E rfl rfl 31 (bytesV (List.replicate 32 0)).toArray HL3.out HES.out HEZ.out HEO.out ?_
  go_wp2_with fail
  refine bodyPost_ret (results_cell_row rfl _ _ g 31 E (0, 0) _ rfl HGW.out dg_under rfl HES.out) rfl ?_
  exact ⟨by rw [HE.out], HBW.out⟩
theorem mof_any (k : List UInt8) (ok : Option Addr) (ck : Nat) (bs : List (List UInt8)) (o : Option Addr) (c : Nat) (w : World) (hK : RowIs w ok (bytesV k) ck)
    (hR : RbIs w o bs c) (hV : Cds w) (hkl : k.length ≤ 900000) (hl : bs.flatten.length ≤ 800000) (hn : bs.length ≤ 1000000) :
    Calls Tryd.prog 10 #[.slice ok k.length ck, .slice o bs.length c] w fun e w' => e = .returned (.agg (bytesV (Da.hmac k bs.flatten)).toArray) ∧ Below w.heap.size w w' :=
  mof_of _ rfl dg_zero k ok ck bs o c w hK hR hV hkl hl hn
end Go.Proofs.YtjfbjonbgljcfaaDoor
