/- MacKeys. -/
import Derived.Test.YtjfbjonbgljcfaaDoorAl8
import Derived.Test.YtjfbjonbgljcfaaDoorMr
import Derived.Test.YtjfbjonbgljcfaaDoorStq
namespace Go.Proofs.YtjfbjonbgljcfaaDoor
open Go.RowKit
set_option linter.unusedVariables false
set_option linter.unusedSimpArgs false
def Mk1 (bs : List (List UInt8)) (W : World) (v i : Value) (wr : World) : Prop :=
  ∃ k : Nat, k ≤ bs.length ∧ i = .int .i64 k ∧ wr.ownsRow W.heap.size 5 1 v (bs.take k).flatten.length (bytesV (bs.take k).flatten) ∧ (∀ j, j < k → (bi bs j).length ≤ 200) ∧ Below W.heap.size W wr
theorem flat_200 (bs : List (List UInt8)) : ∀ k, k ≤ bs.length → (∀ j, j < k → (bi bs j).length ≤ 200) → (bs.take k).flatten.length ≤ 200 * k
  | 0, _, _ => by simp
  | k + 1, h, hs => by
    rw [flat_step bs k (by omega), List.length_append]
    have := flat_200 bs k (by omega) (fun j hj => hs j (by omega))
    have := hs k (by omega)
    omega
set_option maxRecDepth 100000 in
set_option maxHeartbeats 4000000 in
theorem mk_of (Z : Array Value) (hZ : Z = (bytesV (List.replicate 32 0)).toArray) (hzs : ∀ w, Sem.run Tryd.prog (zeroValue 28) w = .ok (.agg Z) w)
    (z : List UInt8) (bs : List (List UInt8)) (o ob : Option Addr) (c cb : Nat) (W : World) (hK : RowIs W o (bytesV z) c) (hR : RbIs W ob bs cb) (hC : Cds W) (hD : Rds W) :
    Calls Tryd.prog 3 #[.slice o z.length c, .slice ob bs.length cb] W fun e w' => e = .returned (.bool true) ∧ Below W.heap.size W w' := by
  have AL := Lib.hid (alive8_any W hC)
  have hk1 := hK.le
  have hk2 := hK.cap
  have hp1 := hR.le
  simp only [bytesV_length] at hk1
  unfold maxLen at hk2 hp1
  have HK := Lib.hid hK
  have HR := Lib.hid hR
  have HC := Lib.hid hC
  have HD := Lib.hid hD
  have HZ := Lib.hid hZ
  clear hK hR hC hD hZ
  go_enter Tryd.func3, Tryd.ntmps3
  go_wp2_with fail
  refine AL.out.mono ?_
  rintro e W1 ⟨rfl, hb1⟩
  have HB1 := Lib.hid hb1
  clear hb1 AL
  by_cases hz3 : 300 < z.length
  · have hd : decide ((z.length : Int) > 300) = true := by simp; omega
    go_wp2_with fail
    go_ret
    exact ⟨rfl, HB1.out⟩
  have hd : decide ((z.length : Int) > 300) = false := by simp; omega
  by_cases hb3 : 10 < bs.length
  · have hd2 : decide ((bs.length : Int) > 10) = true := by simp; omega
    go_wp2_with fail
    go_ret
    exact ⟨rfl, HB1.out⟩
  have hd2 : decide ((bs.length : Int) > 10) = false := by simp; omega
  obtain ⟨W2, hW2⟩ : ∃ W2, W1.alloc (.cells #[] 5) = W2 := ⟨_, rfl⟩
  have HO2 : Hid (W2.ownsRow W1.heap.size 5 1 (.slice (some ⟨W1.heap.size, 0, none⟩) 0 0) 0 (bytesV [])) := Lib.hid (by rw [← hW2]; exact World.ownsRow_lit W1 #[] 0 (Nat.le_refl _) (Nat.zero_le _) rfl)
  have HB2 : Hid (Below W1.heap.size W1 W2) := Lib.hid (by rw [← hW2]; exact (Below.refl _ _).alloc (Nat.le_refl _) _)
  have HW2 := Lib.hid hW2
  clear hW2
  go_wp2_with (first | rw [HW2.out])
  go_loopw [5, 25] (fun v i wr => Mk1 bs W1 v i wr) (fun _ i _ => bs.length - (intOf i).toNat)
  case atStart => exact ⟨0, Nat.zero_le _, rfl, HO2.out, fun j hj => by omega, HB2.out⟩
  case round =>
    rename World => X1
    obtain ⟨k, hk, rfl, hown, hsm, hbel⟩ := hrel
    by_cases hlt : k < bs.length
    · have hd1 : decide ((k : Int) < (bs.length : Int)) = true := by simpa using hlt
      obtain ⟨b1, off1, p1, q1, rfl, hb1, hcell, hrow⟩ := (HR.out.later (Kit.step HB1.out hbel)).cell k hlt
      obtain ⟨b, hbe⟩ : ∃ b, bi bs k = b := ⟨_, rfl⟩
      rw [hbe] at hcell hrow
      have hrc := hrow.cap
      have hrl := hrow.le
      unfold maxLen at hrc
      simp only [bytesV_length] at hrl
      have HRW := Lib.hid hrow
      have HOW := Lib.hid hown
      have HSM := Lib.hid hsm
      have HBE := Lib.hid hbe
      have HBL := Lib.hid hbel
      clear hrow hown hsm hbe hbel HO2 HB2 HW2
      by_cases hbl : 200 < b.length
      · have hd3 : decide ((b.length : Int) > 200) = true := by simp; omega
        go_wp2_with fail
        go_ret
        exact ⟨rfl, Kit.step HB1.out HBL.out⟩
      · have hd3 : decide ((b.length : Int) > 200) = false := by simp; omega
        have hf2 := flat_200 bs k hk HSM.out
        obtain ⟨fl, hfl⟩ : ∃ fl, (bs.take k).flatten = fl := ⟨_, rfl⟩
        have HFS : Hid ((bs.take (k + 1)).flatten = fl ++ b) := Lib.hid (by rw [flat_step bs k hlt, hfl, HBE.out])
        rw [hfl] at HOW hf2
        have HFL : Hid (fl.length ≤ 2000) := Lib.hid (by omega)
        clear hf2 hfl
        go_wp2_with (first | (at_builtin; refine append_row rfl (.tmp 32) (.tmp 33) rfl W1.heap.size _ fl.length fl rfl HOW.out p1 b.length q1 b rfl rfl HRW.out (by have := HFL.out; omega) HBL.out.size ?_))
        intro v3 X2 hv3 hg3
        have HX : Hid (Mk1 bs W1 v3 (.int .i64 ((k : Int) + 1)) X2) := Lib.hid ⟨k + 1, by omega, by go_num, by rw [HFS.out, List.length_append]; exact hv3, fun j hj => by
          by_cases e : j = k
          · subst e; rw [HBE.out]; omega
          · exact HSM.out j (by omega), own_below (n := 0) HBL.out HOW.out hg3⟩
        clear hv3 hg3
        go_wp2_with fail
        exact ⟨HX.out, by simp [intOf]; omega⟩
    · have hkb : k = bs.length := by omega
      have hfs := flat_200 bs k hk hsm
      rw [hkb, List.take_length] at hown hfs
      subst hkb
      obtain ⟨A, hA⟩ : ∃ A, bs.flatten = A := ⟨_, rfl⟩
      rw [hA] at hown hfs
      obtain ⟨oa, ca, rfl, hra⟩ := owns_is hown (by rw [bytesV_length])
      have HBW := Lib.hid (Kit.step HB1.out hbel)
      have HAL : Hid (A.length ≤ 2000) := Lib.hid (by omega)
      have HA := Lib.hid hA
      have HRA := Lib.hid hra
      have BY := Lib.hid (bytes_any z o c X1 (HK.out.later HBW.out) (by omega))
      clear hown hfs hra hbel hsm HO2 HB2 HW2 hA HB1
      go_wp2_with fail
      refine BY.out.mono ?_
      rintro e X2 ⟨B, rfl, hb2, hB2, hM2⟩
      have HBX2 := Lib.hid (Kit.step HBW.out hb2)
      have MKK := Lib.hid (kmake_any z _ _ X2 (hM2.row (by unfold maxLen; omega)) (HC.out.later HBX2.out) (by omega))
      have HM2 := Lib.hid hM2
      have HRA2 := Lib.hid (HRA.out.later hb2)
      clear hb2 hB2 hM2 BY HRA HBW
      go_wp2_with fail
      refine MKK.out.mono ?_
      rintro e X3 ⟨rfl, ha3, hb3⟩
      have HBX3 := Lib.hid (Kit.step HBX2.out hb3)
      have HM3 := Lib.hid (HM2.out.later hb3)
      have HA3 := Lib.hid ha3
      have RM := Lib.hid (rmac_any z A o oa c ca X3 (HK.out.later HBX3.out) (HRA2.out.later hb3) (HD.out.later HBX3.out) (by omega) (by have := HAL.out; omega))
      obtain ⟨h, hh⟩ : ∃ h, Da.hmac z A = h := ⟨_, rfl⟩
      have hhl : h.length = 32 := by rw [← hh]; exact Da.hmac_length _ _
      obtain ⟨E, hE⟩ : ∃ E, (bytesV h).toArray = E := ⟨_, rfl⟩
      rw [hh, hE] at RM
      have HDS : Hid ((Tryd.prog.info? 28).map (·.size) = some E.size) := Lib.hid (by rw [d32_info, ← hE]; simp [hhl])
      have HDO : Hid (E.all (·.oneCell') = true) := Lib.hid (by rw [← hE]; exact all_oneCell_toArray (bytesV_one _))
      have HDZ : Hid (Z.size = E.size) := Lib.hid (by rw [HZ.out, ← hE]; simp [hhl])
      have HH := Lib.hid hh
      have HHL := Lib.hid hhl
      have HE := Lib.hid hE
      clear ha3 hb3 MKK HRA2 HM2 HBX2 hh hhl hE
      go_upto_region 15 with fail
      apply wp_region_lit
      (refine wpList_plain rfl (fun K hK => ?_); go_simp; refine hK _ _ ?_; clear hK K)
      (refine wpList_plain rfl (fun K hK => ?_); go_simp; refine hK _ _ ?_; clear hK K)
      (refine wpList_plain rfl (fun K hK => ?_); go_simp)
      refine RM.out.mono ?_
      rintro e X4 ⟨rfl, hb4⟩
      refine hK _ _ ?_
      clear hK K RM
      obtain ⟨X5, hX5⟩ : ∃ X5, X4.alloc (.cells Z 28) = X5 := ⟨_, rfl⟩
      obtain ⟨X6, hX6⟩ : ∃ X6, X5.setRow X4.heap.size E = X6 := ⟨_, rfl⟩
      have hA5 : Arr X5 X4.heap.size 28 Z.toList := by rw [← hX5]; exact Arr.made _ _ _
      have hA6 : Arr X6 X4.heap.size 28 (bytesV h) := by rw [← hX6, ← HE.out]; exact setRow_heap _ _ _ _ _ _ hA5
      have hb6 : Below X4.heap.size X4 X6 := by rw [← hX6, ← hX5]; exact ((Below.refl _ _).alloc (Nat.le_refl _) _).trans (below_row (Nat.le_refl _))
      have hb36 := Kit.step hb4 hb6
      have HA5 : Hid (X5.heap[X4.heap.size]? = some (.cells Z 28 (0, 0))) := Lib.hid hA5
      have HBX6 := Lib.hid (Kit.step HBX3.out hb36)
      have HM6 := Lib.hid (HM3.out.later hb36)
      have HK6 := Lib.hid (HA3.out.later hb36 HA3.out.lt)
      have HW6 := Lib.hid hA6
      have TG := Lib.hid (tag_any z X2.heap.size bs ob cb X6 HK6.out (HR.out.later HBX6.out) (HC.out.later HBX6.out) (by rw [HA.out]; have := HAL.out; omega) (by omega))
      have HX5 := Lib.hid hX5
      have HX6 := Lib.hid hX6
      clear hX5 hX6 hA5 hA6 hb6 hb36 hb4 HBX3 HM3 HA3
      (refine wpList_plain rfl (fun K hK => ?_); go_simp; refine hK _ _ ?_; clear hK K)
      rw [HX5.out]
      refine wpList_store_row rfl 28 (.tmp 10) (.tmp 42) rfl X4.heap.size E rfl rfl 28 Z HA5.out HDS.out HDZ.out HDO.out ?_
      rw [HX6.out]
      clear HX5 HX6 HA5 HDS HDO HDZ
      go_wp2_with fail
      refine TG.out.mono ?_
      rintro e X7 ⟨gt, rfl, hrt, hb7⟩
      have hHR : (h.take 8).length = 8 := by rw [List.length_take, HHL.out]; rfl
      have hbW := Kit.step HBX6.out hb7
      have hK7 := HK6.out.later hb7 HK6.out.lt
      have hM7 := HM6.out.later hb7
      have hW7 := HW6.out.later hb7 HW6.out.lt
      rw [HA.out, HH.out] at hrt
      obtain ⟨T, hT⟩ : ∃ T : ByteArray, ⟨(h.take 8).toArray⟩ = T := ⟨_, rfl⟩
      have hR7 := HR.out.later hbW
      have hKE7 := HK.out.later hbW
      have hC7 := HC.out.later hbW
      have hfl : bs.flatten.length ≤ 800000 := by rw [HA.out]; have := HAL.out; omega
      have MO : Hid (∀ v, Below X7.heap.size X7 v → Calls Tryd.prog 10 #[.slice (some ⟨B, 0, none⟩) z.length (z.length + 6), .slice ob bs.length cb] v fun e w' => e = .returned (.agg E) ∧ Below X7.heap.size X7 w') := Lib.hid fun v hv => by
        refine (mof_any z _ _ bs ob cb v ((hM7.later hv).row (by unfold maxLen; omega)) (hR7.later hv) (hC7.later hv) (by omega) hfl (by omega)).mono ?_
        rintro e w' ⟨rfl, hb⟩
        exact ⟨by rw [HA.out, HH.out, HE.out], Kit.step hv hb⟩
      have KO : Hid (∀ v, Below X7.heap.size X7 v → Calls Tryd.prog 11 #[.pointer (some ⟨X2.heap.size, 0, none⟩), .slice ob bs.length cb] v fun e w' => e = .returned (.agg E) ∧ Below X7.heap.size X7 w') := Lib.hid fun v hv => by
        refine (kofh_any z X2.heap.size bs ob cb v (hK7.later hv hK7.lt) (hR7.later hv) (hC7.later hv) hfl (by omega)).mono ?_
        rintro e w' ⟨rfl, hb⟩
        exact ⟨by rw [HA.out, HH.out, HE.out], Kit.step hv hb⟩
      have KR : Hid (∀ v, Below X7.heap.size X7 v → Calls Tryd.prog 12 #[.pointer (some ⟨X2.heap.size, 0, none⟩), .slice (some ⟨gt, 0, none⟩) 8 8, .slice ob bs.length cb] v fun e w' => e = .returned (.bool true) ∧ Below X7.heap.size X7 w') := Lib.hid fun v hv => by
        have := kright_any z X2.heap.size (h.take 8) (some ⟨gt, 0, none⟩) 8 bs ob cb v (hK7.later hv hK7.lt) (hrt.later hv) (by omega) (hR7.later hv) (hC7.later hv) hfl (by omega)
        rw [hHR, HA.out, HH.out, beq_self_eq_true] at this
        refine this.mono ?_
        rintro e w' ⟨rfl, hb⟩
        exact ⟨rfl, Kit.step hv hb⟩
      have KE : Hid (∀ v, Below X7.heap.size X7 v → Calls Tryd.prog 13 #[.slice (some ⟨B, 0, none⟩) z.length (z.length + 6), .slice o z.length c] v fun e w' => e = .returned (.bool true) ∧ Below X7.heap.size X7 w') := Lib.hid fun v hv => by
        refine (kept_any z B o c v (hM7.later hv) (hKE7.later hv) (by omega)).mono ?_
        rintro e w' ⟨rfl, nd, rfl⟩
        exact ⟨rfl, Kit.dn hv nd⟩
      have LD : Hid (∀ v, Below X7.heap.size X7 v → v.rangeAt X4.heap.size 0 (bytesV h)) := Lib.hid fun v hv => (hW7.later hv hW7.lt).range 0 _ (fun j v hv => by rw [Nat.zero_add]; exact hv)
      have HLI : Hid ((Tryd.prog.info? 28).map (·.size) = some (bytesV h).length) := Lib.hid (by rw [d32_info]; simp [HHL.out])
      have CT : Hid (∀ v, Below X7.heap.size X7 v → (convert 22 9 (.slice (some ⟨gt, 0, none⟩) 8 8)).run Tryd.prog v = .ok (.string T) v) := Lib.hid fun v hv => by
        have := run_string (hrt.later hv) Tryd.underlying22 Tryd.underlying5 Tryd.underlying9 8
        rw [hHR, hT] at this
        exact this
      have CW : Hid (∀ v, Below X7.heap.size X7 v → (convert 22 9 (.slice (some ⟨X4.heap.size, 0, none⟩) 8 32)).run Tryd.prog v = .ok (.string T) v) := Lib.hid fun v hv => by
        have hr := ((hW7.later hv hW7.lt).row (by rw [HHL.out]; unfold maxLen; decide)).pre 8 (by rw [HHL.out]; decide)
        rw [HHL.out] at hr
        have := run_string hr Tryd.underlying22 Tryd.underlying5 Tryd.underlying9 32
        rw [hHR, hT] at this
        exact this
      have heq : ∀ W, (binOp .eql 28 (.agg E) (.agg E)).run Tryd.prog W = .ok (.bool true) W := fun W => by
        have := d32_eql h h HHL.out HHL.out W
        rw [HE.out, beq_self_eq_true] at this
        exact this
      have hgd := d32_guard
      obtain ⟨C, hC⟩ : ∃ C : World → Prop, (fun v => Below X7.heap.size X7 v) = C := ⟨_, rfl⟩
      have hC0 : C { X7 with drawn := X7.drawn + 1 } := by rw [← hC]; exact Kit.dn' X7 1
      have HCm : Hid (∀ v, C v → Below X7.heap.size X7 v) := Lib.hid fun v hv => by rw [← hC] at hv; exact hv
      have HCi : Hid (∀ v, Below X7.heap.size X7 v → C v) := Lib.hid fun v hv => by rw [← hC]; exact hv
      have HBZ := Lib.hid hbW
      have HEE : Hid ((bytesV h).toArray = E) := HE
      clear hrt hb7 hbW hK7 hM7 hW7 hR7 hKE7 hC7 hfl hT hC hHR TG HK6 HM6 HW6
      go_upto_region 17 with fail
      refine wp_region_quiet (C := C) (by kernel_rfl) (by kernel_rfl) hC0 ?_
      simp only
      (refine wpQuiet_step (fun K hK => ?_); refine St.qk_val (x := ?_) (by rfl) (fun w hw => ?_) ?_; rotate_left; (· go_simp <;> with_reducible rfl); go_simp; refine hK _ ?_; clear hK K)
      (refine wpQuiet_step (fun K hK => ?_); refine St.qk_val (x := ?_) (by rfl) (fun w hw => ?_) ?_; rotate_left; (· go_simp <;> with_reducible rfl); go_simp; refine hK _ ?_; clear hK K)
      (refine wpQuiet_step (fun K hK => ?_); refine St.qk_call (by rfl) 10 _ _ rfl #[.slice (some ⟨B, 0, none⟩) z.length (z.length + 6), .slice ob bs.length cb] (by go_simp) (fun w => by simp [go_sem]) (.agg E) (fun v hv => (MO.out v (HCm.out v hv)).mono (fun e w' h => ⟨h.1, HCi.out _ h.2⟩)) ?_; go_simp; refine hK _ ?_; clear hK K)
      (refine wpQuiet_step (fun K hK => ?_); refine St.qk_val (x := .agg E) (by rfl) (fun w hw => by rw [← HE.out]; exact St.exec_load rfl rfl (bytesV h) _ (LD.out w (HCm.out w hw)) d32_under rfl HLI.out) ?_; go_simp; refine hK _ ?_; clear hK K)
      (refine wpQuiet_step (fun K hK => ?_); refine St.qk_val (x := ?_) (by rfl) (fun w hw => ?_) ?_; rotate_left; (· go_simp <;> with_reducible rfl); go_simp; refine hK _ ?_; clear hK K)
      (refine wpQuiet_step (fun K hK => ?_); refine St.qk_val (x := ?_) (by rfl) (fun w hw => ?_) ?_; rotate_left; (· go_simp <;> with_reducible rfl); go_simp; refine hK _ ?_; clear hK K)
      (refine wpQuiet_step (fun K hK => ?_); refine St.qk_val (x := ?_) (by rfl) (fun w hw => ?_) ?_; rotate_left; (· go_simp <;> with_reducible rfl); go_simp; refine hK _ ?_; clear hK K)
      (refine wpQuiet_step (fun K hK => ?_); refine St.qk_val (x := ?_) (by rfl) (fun w hw => ?_) ?_; rotate_left; (· go_simp <;> with_reducible rfl); go_simp; refine hK _ ?_; clear hK K)
      (refine wpQuiet_step (fun K hK => ?_); refine St.qk_call (by rfl) 11 _ _ rfl #[.pointer (some ⟨X2.heap.size, 0, none⟩), .slice ob bs.length cb] (by go_simp) (fun w => by simp [go_sem]) (.agg E) (fun v hv => (KO.out v (HCm.out v hv)).mono (fun e w' h => ⟨h.1, HCi.out _ h.2⟩)) ?_; go_simp; refine hK _ ?_; clear hK K)
      (refine wpQuiet_step (fun K hK => ?_); refine St.qk_val (x := .agg E) (by rfl) (fun w hw => by rw [← HE.out]; exact St.exec_load rfl rfl (bytesV h) _ (LD.out w (HCm.out w hw)) d32_under rfl HLI.out) ?_; go_simp; refine hK _ ?_; clear hK K)
      (refine wpQuiet_step (fun K hK => ?_); refine St.qk_val (x := ?_) (by rfl) (fun w hw => ?_) ?_; rotate_left; (· go_simp <;> with_reducible rfl); go_simp; refine hK _ ?_; clear hK K)
      (refine wpQuiet_step (fun K hK => ?_); refine St.qk_val (x := ?_) (by rfl) (fun w hw => ?_) ?_; rotate_left; (· go_simp <;> with_reducible rfl); go_simp; refine hK _ ?_; clear hK K)
      (refine wpQuiet_step (fun K hK => ?_); refine St.qk_val (x := ?_) (by rfl) (fun w hw => ?_) ?_; rotate_left; (· go_simp <;> with_reducible rfl); go_simp; refine hK _ ?_; clear hK K)
      (refine wpQuiet_step (fun K hK => ?_); refine St.qk_val (x := ?_) (by rfl) (fun w hw => ?_) ?_; rotate_left; (· go_simp <;> with_reducible rfl); go_simp; refine hK _ ?_; clear hK K)
      (refine wpQuiet_step (fun K hK => ?_); refine St.qk_val (x := .string T) (by rfl) (fun w hw => St.exec_conv rfl (CT.out w (HCm.out w hw))) ?_; go_simp; refine hK _ ?_; clear hK K)
      (refine wpQuiet_step (fun K hK => ?_); refine St.qk_val (x := ?_) (by rfl) (fun w hw => ?_) ?_; rotate_left; (· go_simp <;> with_reducible rfl); go_simp; refine hK _ ?_; clear hK K)
      (refine wpQuiet_step (fun K hK => ?_); refine St.qk_val (x := .string T) (by rfl) (fun w hw => St.exec_conv rfl (CW.out w (HCm.out w hw))) ?_; go_simp; refine hK _ ?_; clear hK K)
      (refine wpQuiet_step (fun K hK => ?_); refine St.qk_val (x := ?_) (by rfl) (fun w hw => ?_) ?_; rotate_left; (· go_simp <;> with_reducible rfl); go_simp; refine hK _ ?_; clear hK K)
      (refine wpQuiet_step (fun K hK => ?_); refine St.qk_val (x := ?_) (by rfl) (fun w hw => ?_) ?_; rotate_left; (· go_simp <;> with_reducible rfl); go_simp; refine hK _ ?_; clear hK K)
      (refine wpQuiet_step (fun K hK => ?_); refine St.qk_val (x := ?_) (by rfl) (fun w hw => ?_) ?_; rotate_left; (· go_simp <;> with_reducible rfl); go_simp; refine hK _ ?_; clear hK K)
      (refine wpQuiet_step (fun K hK => ?_); refine St.qk_val (x := ?_) (by rfl) (fun w hw => ?_) ?_; rotate_left; (· go_simp <;> with_reducible rfl); go_simp; refine hK _ ?_; clear hK K)
      (refine wpQuiet_step (fun K hK => ?_); refine St.qk_val (x := ?_) (by rfl) (fun w hw => ?_) ?_; rotate_left; (· go_simp <;> with_reducible rfl); go_simp; refine hK _ ?_; clear hK K)
      (refine wpQuiet_step (fun K hK => ?_); refine St.qk_val (x := ?_) (by rfl) (fun w hw => ?_) ?_; rotate_left; (· go_simp <;> with_reducible rfl); go_simp; refine hK _ ?_; clear hK K)
      (refine wpQuiet_step (fun K hK => ?_); refine St.qk_call (by rfl) 12 _ _ rfl #[.pointer (some ⟨X2.heap.size, 0, none⟩), .slice (some ⟨gt, 0, none⟩) 8 8, .slice ob bs.length cb] (by go_simp) (fun w => by simp [go_sem]) (.bool true) (fun v hv => (KR.out v (HCm.out v hv)).mono (fun e w' h => ⟨h.1, HCi.out _ h.2⟩)) ?_; go_simp; refine hK _ ?_; clear hK K)
      (refine wpQuiet_step (fun K hK => ?_); refine St.qk_val (x := ?_) (by rfl) (fun w hw => ?_) ?_; rotate_left; (· go_simp <;> with_reducible rfl); go_simp; refine hK _ ?_; clear hK K)
      (refine wpQuiet_step (fun K hK => ?_); refine St.qk_val (x := ?_) (by rfl) (fun w hw => ?_) ?_; rotate_left; (· go_simp <;> with_reducible rfl); go_simp; refine hK _ ?_; clear hK K)
      (refine wpQuiet_step (fun K hK => ?_); refine St.qk_val (x := ?_) (by rfl) (fun w hw => ?_) ?_; rotate_left; (· go_simp <;> with_reducible rfl); go_simp; refine hK _ ?_; clear hK K)
      (refine wpQuiet_step (fun K hK => ?_); refine St.qk_val (x := ?_) (by rfl) (fun w hw => ?_) ?_; rotate_left; (· go_simp <;> with_reducible rfl); go_simp; refine hK _ ?_; clear hK K)
      (refine wpQuiet_step (fun K hK => ?_); refine St.qk_call (by rfl) 13 _ _ rfl #[.slice (some ⟨B, 0, none⟩) z.length (z.length + 6), .slice o z.length c] (by go_simp) (fun w => by simp [go_sem]) (.bool true) (fun v hv => (KE.out v (HCm.out v hv)).mono (fun e w' h => ⟨h.1, HCi.out _ h.2⟩)) ?_; go_simp; refine hK _ ?_; clear hK K)
      (refine wpQuiet_step (fun K hK => ?_); refine St.qk_val (x := ?_) (by rfl) (fun w hw => ?_) ?_; rotate_left; (· go_simp <;> with_reducible rfl); go_simp; refine hK _ ?_; clear hK K)
      (refine wpQuiet_step (fun K hK => ?_); refine St.qk_val (x := ?_) (by rfl) (fun w hw => ?_) ?_; rotate_left; (· go_simp <;> with_reducible rfl); go_simp; refine hK _ ?_; clear hK K)
      refine wpQuiet_nil ?_
      intro X8 hX8
      have HB8 := Lib.hid (Kit.step HBZ.out (HCm.out X8 hX8))
      clear hX8
      go_wp2_with fail
      go_ret
      exact ⟨rfl, HB8.out⟩
theorem mk_any (z : List UInt8) (bs : List (List UInt8)) (o ob : Option Addr) (c cb : Nat) (W : World) (hK : RowIs W o (bytesV z) c) (hR : RbIs W ob bs cb) (hC : Cds W) (hD : Rds W) :
    Calls Tryd.prog 3 #[.slice o z.length c, .slice ob bs.length cb] W fun e w' => e = .returned (.bool true) ∧ Below W.heap.size W w' := mk_of _ rfl d32_zero z bs o ob c cb W hK hR hC hD
end Go.Proofs.YtjfbjonbgljcfaaDoor
