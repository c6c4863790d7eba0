/- The walk of CodeWords. -/
import Derived.Test.YtkkmgjjafbjnjaaDoorEn
import Derived.Test.YtkkmgjjafbjnjaaDoorAl3
import Derived.Test.YtkkmgjjafbjnjaaDoorCp
import Derived.Laws.Concat
namespace Go.Proofs.YtkkmgjjafbjnjaaDoor
open Go.RowKit
set_option linter.unusedVariables false
set_option linter.unusedSimpArgs false
theorem syn_code {z : List UInt8} (h : IsCode z) : (synL z == zsyn) = true := by
  have : synL z = zsyn := list_ext (by simp [synL, zsyn]) fun j hj => by
    simp [synL] at hj
    rw [synL, co_tab _ _ _ hj, h j hj, zsyn, co_zeros]
  simp [this]
theorem row_nil (w : World) : RowIs w none (bytesV []) 0 := ⟨by simp, by simp, fun _ => rfl, fun h => by simp at h⟩
set_option maxRecDepth 100000 in
set_option maxHeartbeats 4000000 in
theorem cwd_main (z : List UInt8) (o : Option Addr) (c : Nat) (w : World) (A : Nat → Addr) (hE : Er.Errs w A) (hP : RowIs w o (bytesV z) c) (hl1 : 1 ≤ z.length) (hl2 : z.length ≤ 223) :
    Calls Tryd.prog 3 #[.slice o z.length c] w fun e w' => e = .returned (.bool true) ∧ Below w.heap.size w w' := by
  have h1 := hP.le
  have h2 := hP.cap
  simp only [bytesV_length] at h1
  unfold maxLen at h2
  have HP := Lib.hid hP
  have hd4 : decide ((400 : Int) < (z.length : Int)) = false := decide_eq_false (by omega)
  clear hP hE
  go_enter Tryd.func3, Tryd.ntmps3
  go_wp2_with fail
  refine (alive3_any _).mono ?_; rintro e w1 ⟨rfl, hb⟩
  have HB1 := Lib.hid hb
  clear hb
  go_wp2_with fail
  refine (bytes_any z o c w1 (HP.out.later HB1.out) (by omega)).mono ?_; rintro e w2 ⟨B, rfl, hb, _, hM⟩
  have HB2 := Lib.hid (Kit.step HB1.out hb)
  have HM2 := Lib.hid hM
  clear hb hM
  go_wp2_with fail
  refine (cpar_any z _ _ w2 (HM2.out.row (by unfold maxLen; omega)) hl1 hl2).mono ?_; rintro e w3 ⟨r, x, hr, hc, rfl, hx, hb⟩
  have HB3 := Lib.hid (Kit.step HB2.out hb)
  have HM3 := Lib.hid (HM2.out.later hb)
  have HX3 := Lib.hid hx
  have HR := Lib.hid hr
  have HC := Lib.hid hc
  clear hb hx hr hc HM2
  go_wp2_with fail
  refine (encode_any z _ _ w3 (HM3.out.row (by unfold maxLen; omega)) hl1 hl2).mono ?_; rintro e w4 ⟨r2, x2, hr, hc, rfl, hx, hb⟩
  obtain rfl := IsCode.only HC.out hc HR.out hr hl2
  have HB4 := Lib.hid (Kit.step HB3.out hb)
  have HM4 := Lib.hid (HM3.out.later hb)
  have HX4 := Lib.hid (HX3.out.later hb)
  obtain ⟨W, hW⟩ : ∃ W, z ++ r = W := ⟨_, rfl⟩
  rw [hW] at hx
  have HW4 := Lib.hid hx
  have HWE := Lib.hid hW
  have HWL : Hid (W.length = z.length + 32) := Lib.hid (by rw [← hW, List.length_append, HR.out])
  have HWC : Hid (IsCode W) := Lib.hid (by rw [← hW]; exact HC.out)
  have HWT : Hid (W.take (W.length - 32) = z) := Lib.hid (by rw [← hW, List.length_append, HR.out, Nat.add_sub_cancel]; exact List.take_left' rfl)
  clear hb hx hr hc hW HM3 HX3
  go_wp2_with fail
  refine (rpar_any z o c w4 (HP.out.later HB4.out) hl1 hl2).mono ?_; rintro e w5 ⟨r3, x3, hr, hc, rfl, hx, hb⟩
  obtain rfl := IsCode.only HC.out hc HR.out hr hl2
  have HB5 := Lib.hid (Kit.step HB4.out hb)
  have HM5 := Lib.hid (HM4.out.later hb)
  have HX5 := Lib.hid (HX4.out.later hb)
  have HW5 := Lib.hid (HW4.out.later hb)
  have HQ5 := Lib.hid hx
  obtain ⟨o1, c1, rfl, _⟩ := HX5.out
  obtain ⟨o3, c3, rfl, _⟩ := HQ5.out
  obtain ⟨o2, c2, rfl, _⟩ := HW5.out
  obtain ⟨SR, hSR⟩ : ∃ s : ByteArray, (⟨r.toArray⟩ : ByteArray) = s := ⟨_, rfl⟩
  have k1 := conv_rv HX5.out
  have k2 := conv_rv HQ5.out
  rw [hSR] at k1 k2
  have HSR := Lib.hid hSR
  clear hb hx hr hc HM4 HX4 HW4 hSR
  go_wp2_with fail
  refine (Er.num_nil _).mono ?_; rintro e w' ⟨rfl, rfl⟩
  go_wp2_with fail
  refine (Er.num_nil _).mono ?_; rintro e w' ⟨rfl, rfl⟩
  go_wp2_with fail
  refine (kept_any z B o c w5 HM5.out (HP.out.later HB5.out) (by omega)).mono ?_; rintro e w6 ⟨rfl, hd⟩
  have HB6 := Lib.hid (Kit.step HB5.out hd.below)
  have HW6 := Lib.hid (HW5.out.later hd.below)
  have HQ6 := Lib.hid (HQ5.out.later hd.below)
  clear hd k1 k2 HM5 HX5 HW5 HQ5
  have hda : Calls Tryd.prog 14 #[.slice o2 W.length c2] w6 fun e w' => ∃ x, e = .returned (.tuple #[x, .nilIface]) ∧ RowV z x w' ∧ Below w6.heap.size w6 w' := by
    obtain ⟨o2', c2', e, h⟩ := HW6.out
    cases e
    have := data_any W o2 c2 w6 h (by rw [HWL.out]; omega)
    rwa [HWT.out] at this
  have HDA := Lib.hid hda
  clear hda
  go_wp2_with fail
  refine HDA.out.mono ?_; rintro e w7 ⟨y, rfl, hy, hb⟩
  have HB7 := Lib.hid (Kit.step HB6.out hb)
  have HW7 := Lib.hid (HW6.out.later hb)
  have HQ7 := Lib.hid (HQ6.out.later hb)
  have HD7 := Lib.hid hy
  obtain ⟨o4, c4, rfl, _⟩ := HD7.out
  obtain ⟨SD, hSD⟩ : ∃ s : ByteArray, (⟨z.toArray⟩ : ByteArray) = s := ⟨_, rfl⟩
  obtain ⟨SW, hSW⟩ : ∃ s : ByteArray, (⟨W.toArray⟩ : ByteArray) = s := ⟨_, rfl⟩
  have k1 := conv_rv HW7.out
  have k2 := conv_rv HQ7.out
  have k3 := conv_rv HD7.out
  have k4 := conv_rv (⟨_, _, rfl, HP.out.later HB7.out⟩ : RowV z (.slice o z.length c) w7)
  have hso : ∀ v, (Op.stringOp .add SD SR).run Tryd.prog v = .ok (.string SW) v := fun v => by
    rw [run_string_add_sum v SD SR (by rw [← hSD, ← HSR.out]; show z.toArray.size + r.toArray.size ≤ _; simp only [List.size_toArray]; have := HR.out; omega)]
    congr 2
    rw [← hSD, ← HSR.out, ← hSW, ← HWE.out]
    apply ByteArray.ext
    simp
  rw [HSR.out] at k2
  rw [hSD] at k3 k4
  rw [hSW] at k1
  have hri : Calls Tryd.prog 15 #[.slice o2 W.length c2] w7 fun e w' => e = .returned (.bool true) ∧ Below w7.heap.size w7 w' := by
    obtain ⟨o2', c2', e, h⟩ := HW7.out
    cases e
    have := right_any W o2 c2 w7 h (by rw [HWL.out]; omega)
    rwa [syn_code HWC.out] at this
  have HRI := Lib.hid hri
  clear hb hy hSD hSW hri HDA HW6 HQ6
  go_wp2_with fail
  refine HRI.out.mono ?_; rintro e w8 ⟨rfl, hb⟩
  have HB8 := Lib.hid (Kit.step HB7.out hb)
  clear hb
  go_wp2_with fail
  go_ret
  exact ⟨rfl, HB8.out⟩
set_option maxRecDepth 100000 in
set_option maxHeartbeats 4000000 in
theorem cwd_err (z : List UInt8) (o : Option Addr) (c : Nat) (w : World) (A : Nat → Addr) (hE : Er.Errs w A) (hP : RowIs w o (bytesV z) c) (hl : z.length < 1 ∨ 223 < z.length) (hl4 : z.length ≤ 400) :
    Calls Tryd.prog 3 #[.slice o z.length c] w fun e w' => e = .returned (.bool true) ∧ Below w.heap.size w w' := by
  have h1 := hP.le
  have h2 := hP.cap
  simp only [bytesV_length] at h1
  unfold maxLen at h2
  have HP := Lib.hid hP
  have HE := Lib.hid hE
  have HL := Lib.hid hl
  have hd4 : decide ((400 : Int) < (z.length : Int)) = false := decide_eq_false (by omega)
  clear hP hE hl
  go_enter Tryd.func3, Tryd.ntmps3
  go_wp2_with fail
  refine (alive3_any _).mono ?_; rintro e w1 ⟨rfl, hb⟩
  have HB1 := Lib.hid hb
  clear hb
  go_wp2_with fail
  refine (bytes_any z o c w1 (HP.out.later HB1.out) (by omega)).mono ?_; rintro e w2 ⟨B, rfl, hb, _, hM⟩
  have HB2 := Lib.hid (Kit.step HB1.out hb)
  have HM2 := Lib.hid hM
  clear hb hM
  go_wp2_with fail
  refine (cpar_size z.length _ _ w2 (A 7) (HE.out.later HB2.out).c7 HL.out (by omega)).mono ?_; rintro e w3 ⟨rfl, hb⟩
  have HB3 := Lib.hid (Kit.step HB2.out hb)
  have HM3 := Lib.hid (HM2.out.later hb)
  clear hb HM2
  go_wp2_with fail
  refine (encode_size z.length _ _ w3 (A 7) (HE.out.later HB3.out).c7 HL.out (by omega)).mono ?_; rintro e w4 ⟨rfl, hb⟩
  have HB4 := Lib.hid (Kit.step HB3.out hb)
  have HM4 := Lib.hid (HM3.out.later hb)
  clear hb HM3
  go_wp2_with fail
  refine (rpar_size z.length c o w4 HL.out (by omega)).mono ?_; rintro e w5 ⟨rfl, rfl⟩
  go_wp2_with fail
  refine (Er.num_of A 7 (by omega) w5 (HE.out.later HB4.out)).mono ?_; rintro e w6 ⟨rfl, hb⟩
  have HB6 := Lib.hid (Kit.step HB4.out hb)
  have HM6 := Lib.hid (HM4.out.later hb)
  clear hb HM4
  go_wp2_with fail
  refine (Er.num_of A 7 (by omega) w6 (HE.out.later HB6.out)).mono ?_; rintro e w7 ⟨rfl, hb⟩
  have HB7 := Lib.hid (Kit.step HB6.out hb)
  have HM7 := Lib.hid (HM6.out.later hb)
  have k1 := conv_rv (⟨_, _, rfl, row_nil w7⟩ : RowV [] (.slice none 0 0) w7)
  clear hb HM6
  go_wp2_with fail
  refine (kept_any z B o c w7 HM7.out (HP.out.later HB7.out) (by omega)).mono ?_; rintro e w8 ⟨rfl, hd⟩
  have HB8 := Lib.hid (Kit.step HB7.out hd.below)
  clear hd k1 HM7
  go_wp2_with fail
  go_ret
  exact ⟨rfl, HB8.out⟩
theorem cwd_long (z : List UInt8) (o : Option Addr) (c : Nat) (w : World) (hl : 400 < z.length) (h1 : z.length ≤ 9223372036854775807) :
    Calls Tryd.prog 3 #[.slice o z.length c] w fun e w' => e = .returned (.bool true) ∧ Below w.heap.size w w' := by
  have hd4 : decide ((400 : Int) < (z.length : Int)) = true := decide_eq_true (by omega)
  go_enter Tryd.func3, Tryd.ntmps3
  go_wp2_with fail
  refine (alive3_any _).mono ?_; rintro e w1 ⟨rfl, hb⟩
  have HB1 := Lib.hid hb
  clear hb
  go_wp2_with fail
  go_ret
  exact ⟨rfl, HB1.out⟩
theorem cwd_walk (z : List UInt8) (o : Option Addr) (c : Nat) (w : World) (A : Nat → Addr) (hE : Er.Errs w A) (hP : RowIs w o (bytesV z) c) :
    Calls Tryd.prog 3 #[.slice o z.length c] w fun e w' => e = .returned (.bool true) ∧ Below w.heap.size w w' := by
  by_cases h4 : 400 < z.length
  · have h1 := hP.le
    have h2 := hP.cap
    simp only [bytesV_length] at h1
    unfold maxLen at h2
    exact cwd_long z o c w h4 (by omega)
  · by_cases h : 1 ≤ z.length ∧ z.length ≤ 223
    · exact cwd_main z o c w A hE hP h.1 h.2
    · exact cwd_err z o c w A hE hP (by omega) (by omega)
end Go.Proofs.YtkkmgjjafbjnjaaDoor
