/- The walk of RepairFixes. -/
import Derived.Test.YtgchfijeiggimaaGreatDoorDx
import Derived.Test.YtgchfijeiggimaaGreatDoorAl5
import Derived.Test.YtgchfijeiggimaaGreatDoorIs
namespace Go.Proofs.YtgchfijeiggimaaGreatDoor
open Go.RowKit
set_option linter.unusedVariables false
set_option linter.unusedSimpArgs false
theorem dfL_symm (a b : List UInt8) (n : Nat) : dfL a b n = dfL b a n := by
  induction n with
  | zero => rfl
  | succ n ih =>
    unfold dfL
    rw [ih]
    by_cases h : co a n = co b n
    · rw [if_pos h, if_pos h.symm]
    · rw [if_neg h, if_neg (fun e => h e.symm)]
theorem dfL_mem (a b : List UInt8) (n : Nat) : ∀ x ∈ dfL a b n, 0 ≤ x ∧ x < (n : Int) := by
  induction n with
  | zero => intro x hx; cases hx
  | succ n ih =>
    intro x hx
    unfold dfL at hx
    by_cases h : co a n = co b n
    · rw [if_pos h] at hx
      have := ih x hx
      omega
    · rw [if_neg h, List.mem_append, List.mem_singleton] at hx
      rcases hx with hx | hx
      · have := ih x hx
        omega
      · omega
theorem getD_mem {z : List Int} {k : Nat} (h : k < z.length) : z.getD k 0 ∈ z := by
  rw [List.getD_eq_getElem?_getD, List.getElem?_eq_getElem h]
  exact List.getElem_mem h
theorem ints_none (w : World) : RowIs w none (intsV []) 0 := ⟨by simp, by simp, fun _ => rfl, fun h => by simp at h⟩
theorem fi_long (m k : Nat) (o oe : Option Addr) (c ce : Nat) (w : World) (h : 300 < m ∨ 40 < k) (hm : m ≤ 9223372036854775807) (hk : k ≤ 9223372036854775807) :
    Calls Tryz.prog 3 #[.slice o m c, .slice oe k ce] w fun e w' => e = .returned (.bool true) ∧ Below w.heap.size w w' := by
  by_cases h1 : 300 < m
  · have hd1 : decide ((300 : Int) < (m : Int)) = true := decide_eq_true (by omega)
    clear h h1
    go_enter Tryz.func3, Tryz.ntmps3
    go_wp2_with fail
    refine (alive5_any _).mono ?_; rintro e w1 ⟨rfl, hb⟩
    have HB := Lib.hid hb
    clear hb
    go_wp2_with fail
    go_ret
    exact ⟨rfl, HB.out⟩
  · have hd1 : decide ((300 : Int) < (m : Int)) = false := decide_eq_false (by omega)
    have hd2 : decide ((40 : Int) < (k : Int)) = true := decide_eq_true (by omega)
    clear h h1
    go_enter Tryz.func3, Tryz.ntmps3
    go_wp2_with fail
    refine (alive5_any _).mono ?_; rintro e w1 ⟨rfl, hb⟩
    have HB := Lib.hid hb
    clear hb
    go_wp2_with fail
    go_ret
    exact ⟨rfl, HB.out⟩
set_option maxRecDepth 100000 in
set_option maxHeartbeats 4000000 in
theorem fi_err (W : List UInt8) (z : List Int) (n a m c cz : Nat) (o oz : Option Addr) (w : World) (A : Nat → Addr) (hW : RowIs w o (bytesV W) c) (hZ : RowIs w oz (intsV z) cz) (hn : W.length = n) (hn3 : n ≤ 300) (hk : z.length ≤ 40) (hE : Er.Errs w A) (hz : ∀ k, k < z.length → -9223372036854775808 ≤ ci z k ∧ ci z k ≤ 9223372036854775807) (ha : a < 20) (hm : a + 1 = m)
    (hF : ∀ v o c oz cz, RowIs v o (bytesV W) c → RowIs v oz (intsV z) cz → Er.Errs v A → Calls Tryz.prog 7 #[.slice o n c, .slice oz z.length cz] v fun e w' => e = fx_v A a ∧ Below v.heap.size v w')
    (hD : ∀ v o c oz cz, RowIs v o (bytesV W) c → RowIs v oz (intsV z) cz → Calls Tryz.prog 8 #[.slice o n c, .slice oz z.length cz] v fun e w' => e = bad_r m ∧ Below v.heap.size v w') :
    Calls Tryz.prog 3 #[.slice o n c, .slice oz z.length cz] w fun e w' => e = .returned (.bool true) ∧ Below w.heap.size w w' := by
  have hd1 : decide ((300 : Int) < (n : Int)) = false := decide_eq_false (by omega)
  have hd2 : decide ((40 : Int) < (z.length : Int)) = false := decide_eq_false (by omega)
  have h1 := hW.le
  have h2 := hW.cap
  have h3 := hZ.le
  have h4 := hZ.cap
  simp only [bytesV_length, intsV_length] at h1 h3
  rw [hn] at h1
  unfold maxLen at h2 h4
  have HW := Lib.hid hW
  have HZ := Lib.hid hZ
  have HN := Lib.hid hn
  have HE := Lib.hid hE
  have HZ2 := Lib.hid hz
  have HF := Lib.hid hF
  have HD := Lib.hid hD
  have HNU : Hid (∀ v, Er.Errs v A → Calls Tryz.prog 9 #[.iface 133 (.pointer (some (A a)))] v fun e w' => e = .returned (.int .i64 (m : Int)) ∧ Below v.heap.size v w') := Lib.hid fun v hv => by
    have := Er.num_of A a ha v hv
    rwa [hm] at this
  have HO : Hid (∀ v, RowIs v o (bytesV W) c → RowIs v oz (intsV z) cz → Er.Errs v A → Calls Tryz.prog 13 #[.slice o n c, .slice oz z.length cz] v fun e w' => e = .returned (.tuple #[.slice none 0 0, .iface 133 (.pointer (some (A a)))]) ∧ Below v.heap.size v w') := Lib.hid fun v h1 h2 h3 => only_of_fx _ _ n c cz z.length o oz v (hF v o c oz cz h1 h2 h3)
  have hm0 : ((m : Int) == 0) = false := beq_false_of_ne (by omega)
  have hm1 : ((m : Int) != 0) = true := by rw [bne_iff_ne]; omega
  have hm2 : ¬ ((m : Int) = 0) := by omega
  have hm3 : decide ((m : Int) = 0) = false := decide_eq_false hm2
  clear hW hZ hn hE hz hF hD ha hm
  go_enter Tryz.func3, Tryz.ntmps3
  go_wp2_with fail
  refine (alive5_any _).mono ?_; rintro e w1 ⟨rfl, hb⟩
  have HB1 := Lib.hid hb
  have hby := bytes_any W o c w1 (HW.out.later hb) (by rw [HN.out]; omega)
  rw [HN.out] at hby
  have HBY := Lib.hid hby
  clear hb hby
  go_wp2_with fail
  refine HBY.out.mono ?_; rintro e w2 ⟨B, rfl, hb, _, hM⟩
  rw [HN.out]
  have HB2 := Lib.hid (Kit.step HB1.out hb)
  have HM2 := Lib.hid hM
  have HIN := Lib.hid (ints_any z oz cz w2 (HZ.out.later HB2.out) (by omega))
  clear hb hM HBY
  go_wp2_with fail
  refine HIN.out.mono ?_; rintro e w3 ⟨B', rfl, hb, _, hM'⟩
  have HB3 := Lib.hid (Kit.step HB2.out hb)
  have HM3 := Lib.hid (HM2.out.later hb)
  have HI3 := Lib.hid hM'
  have hfx := HF.out w3 (some ⟨B, 0, none⟩) (W.length + 6) (some ⟨B', 0, none⟩) (z.length + 4) (HM3.out.row (by rw [HN.out]; unfold maxLen; omega)) (hM'.row (by omega)) (HE.out.later HB3.out)
  rw [HN.out] at hfx
  have HFX := Lib.hid hfx
  clear hb hM' hfx HIN HF HM2
  go_wp2_with fail
  refine HFX.out.mono ?_; rintro e w4 ⟨rfl, hb⟩
  have HB4 := Lib.hid (Kit.step HB3.out hb)
  have HM4 := Lib.hid (HM3.out.later hb)
  have HI4 := Lib.hid (HI3.out.later hb)
  obtain ⟨w5, hw5⟩ : ∃ w5, w4.alloc (.cells #[.slice none 0 0, .slice none 0 0, .int .i64 0] 28) = w5 := ⟨_, rfl⟩
  have hb5 : Below w4.heap.size w4 w5 := by rw [← hw5]; exact (Below.refl _ _).alloc (Nat.le_refl _) _
  have hg5 : w5.heap[w4.heap.size]? = some (.cells #[.slice none 0 0, .slice none 0 0, .int .i64 0] 28 (0, 0)) := by rw [← hw5]; exact World.alloc_heap_new _ _
  obtain ⟨gf, hgf⟩ : ∃ gf, w4.heap.size = gf := ⟨_, rfl⟩
  rw [hgf] at hg5
  have HG5 := Lib.hid hg5
  have HB5 := Lib.hid (Kit.step HB4.out hb5)
  have HM5 := Lib.hid (HM4.out.later hb5)
  have HI5 := Lib.hid (HI4.out.later hb5)
  have HDX := Lib.hid (HD.out w5 o c oz cz (HW.out.later HB5.out) (HZ.out.later HB5.out))
  have HW5 := Lib.hid hw5
  have HGF := Lib.hid hgf
  unfold fx_v fxz
  clear hb hb5 hg5 hw5 hgf HFX HM3 HI3 HD
  go_wp2_with fail
  rw [HW5.out, HGF.out]
  refine HDX.out.mono ?_; rintro e w6 ⟨rfl, hb⟩
  unfold bad_r
  have HB6 := Lib.hid (Kit.step HB5.out hb)
  have HM6 := Lib.hid (HM5.out.later hb)
  have HI6 := Lib.hid (HI5.out.later hb)
  have HG6 := Lib.hid (fx_keeps HG5.out hb)
  clear hb HDX
  go_wp2_with fail
  refine (HNU.out w6 (HE.out.later HB6.out)).mono ?_; rintro e w7 ⟨rfl, hb⟩
  have HB7 := Lib.hid (Kit.step HB6.out hb)
  have HM7 := Lib.hid (HM6.out.later hb)
  have HI7 := Lib.hid (HI6.out.later hb)
  have HG7 := Lib.hid (fx_keeps HG6.out hb)
  obtain ⟨hcc0, hcc1, _⟩ := fx_cells HG7.out
  have k1 := conv_rv (⟨none, 0, rfl, ⟨by simp, by simp, fun _ => rfl, fun h => by simp at h⟩⟩ : RowV [] (.slice none 0 0) w7)
  have HSI := Lib.hid (same_ints [] none none 0 0 w7 (ints_none _) (ints_none _) (by simp) (fun k hk => absurd hk (by simp)))
  clear hb
  go_wp2_with fail
  refine HSI.out.mono ?_; rintro e w8 ⟨rfl, hd8⟩
  have HB8 := Lib.hid (Kit.step HB7.out hd8.below)
  have HM8 := Lib.hid (HM7.out.later hd8.below)
  have HI8 := Lib.hid (HI7.out.later hd8.below)
  obtain ⟨_, _, hcc2, _⟩ := fx_cells (fx_keeps HG7.out hd8.below)
  have hkp := kept_any W B o c w8 HM8.out (HW.out.later HB8.out) (by rw [HN.out]; omega)
  rw [HN.out] at hkp
  have HKP := Lib.hid hkp
  clear hd8 hcc0 hcc1 hkp HSI
  go_wp2_with fail
  refine HKP.out.mono ?_; rintro e w9 ⟨rfl, hd9⟩
  have HB9 := Lib.hid (Kit.step HB8.out hd9.below)
  have HKI := Lib.hid (kept_ints z B' oz cz w9 (HI8.out.later hd9.below) (HZ.out.later HB9.out) (by omega) HZ2.out)
  clear hd9 hcc2 HKP
  go_wp2_with fail
  refine HKI.out.mono ?_; rintro e w10 ⟨rfl, hd10⟩
  have HBa := Lib.hid (Kit.step HB9.out hd10.below)
  have HOC := Lib.hid (HO.out w10 (HW.out.later HBa.out) (HZ.out.later HBa.out) (HE.out.later HBa.out))
  clear hd10 HKI
  go_wp2_with fail
  refine HOC.out.mono ?_; rintro e w11 ⟨rfl, hb⟩
  have HBb := Lib.hid (Kit.step HBa.out hb)
  clear hb HOC
  go_wp2_with fail
  refine (HNU.out w11 (HE.out.later HBb.out)).mono ?_; rintro e w12 ⟨rfl, hb⟩
  have HBc := Lib.hid (Kit.step HBb.out hb)
  have k2 := conv_rv (⟨none, 0, rfl, ⟨by simp, by simp, fun _ => rfl, fun h => by simp at h⟩⟩ : RowV [] (.slice none 0 0) w12)
  clear hb
  go_wp2_with fail
  go_ret
  exact ⟨rfl, HBc.out⟩
set_option maxRecDepth 100000 in
set_option maxHeartbeats 4000000 in
theorem fi_ok (W V : List UInt8) (H : List Nat) (z : List Int) (n L c cz : Nat) (o oz : Option Addr) (w : World) (A : Nat → Addr) (hW : RowIs w o (bytesV W) c) (hZ : RowIs w oz (intsV z) cz) (hn : W.length = n) (hn3 : n ≤ 300) (hk : z.length ≤ 40) (hE : Er.Errs w A) (hz : ∀ k, k < z.length → -9223372036854775808 ≤ ci z k ∧ ci z k ≤ 9223372036854775807) (hch : Chg V W n z H) (hL : H.length = L)
    (hF : ∀ v o c oz cz, RowIs v o (bytesV W) c → RowIs v oz (intsV z) cz → Er.Errs v A → Calls Tryz.prog 7 #[.slice o n c, .slice oz z.length cz] v fun e w' => ∃ x1 x2, e = .returned (.tuple #[.agg #[x1, x2, .int .i64 (L : Int)], .nilIface]) ∧ RowV V x1 w' ∧ IntsV (dfL V W n) x2 w' ∧ Below v.heap.size v w')
    (hD : ∀ v o c oz cz, RowIs v o (bytesV W) c → RowIs v oz (intsV z) cz → Calls Tryz.prog 8 #[.slice o n c, .slice oz z.length cz] v fun e w' => ∃ x1 x2, e = .returned (.tuple #[x1, x2, .int .i64 (L : Int), .int .i64 0]) ∧ RowV V x1 w' ∧ IntsV (dfL V W n) x2 w' ∧ Below v.heap.size v w')
    (hO : ∀ v o c oz cz, RowIs v o (bytesV W) c → RowIs v oz (intsV z) cz → Er.Errs v A → Calls Tryz.prog 13 #[.slice o n c, .slice oz z.length cz] v fun e w' => Below v.heap.size v w' ∧ ((0 < L ∧ e = .returned (.tuple #[.slice none 0 0, .iface 133 (.pointer (some (A 16)))])) ∨ (L = 0 ∧ ∃ x1, e = .returned (.tuple #[x1, .nilIface]) ∧ RowV V x1 w'))) :
    Calls Tryz.prog 3 #[.slice o n c, .slice oz z.length cz] w fun e w' => e = .returned (.bool true) ∧ Below w.heap.size w w' := by
  have hd1 : decide ((300 : Int) < (n : Int)) = false := decide_eq_false (by omega)
  have hd2 : decide ((40 : Int) < (z.length : Int)) = false := decide_eq_false (by omega)
  have h1 := hW.le
  have h2 := hW.cap
  have h3 := hZ.le
  have h4 := hZ.cap
  simp only [bytesV_length, intsV_length] at h1 h3
  rw [hn] at h1
  unfold maxLen at h2 h4
  have HW := Lib.hid hW
  have HZ := Lib.hid hZ
  have HN := Lib.hid hn
  have HE := Lib.hid hE
  have HZ2 := Lib.hid hz
  have HF := Lib.hid hF
  have HD := Lib.hid hD
  have HNU : Hid (∀ v, Er.Errs v A → Calls Tryz.prog 9 #[.iface 133 (.pointer (some (A 16)))] v fun e w' => e = .returned (.int .i64 17) ∧ Below v.heap.size v w') := Lib.hid fun v hv => Er.num_of A 16 (by omega) v hv
  have HNN : Hid (∀ v, Calls Tryz.prog 9 #[.nilIface] v fun e w' => e = .returned (.int .i64 0) ∧ v = w') := Lib.hid fun v => Er.num_nil v
  have HO : Hid (∀ v, RowIs v o (bytesV W) c → RowIs v oz (intsV z) cz → Er.Errs v A → _) := Lib.hid (fun v h1 h2 h3 => hO v o c oz cz h1 h2 h3)
  have hVl := hch.lv
  have HVL := Lib.hid hVl
  have hfew := hch.few
  rw [hL] at hfew
  obtain ⟨D, hD'⟩ : ∃ D, dfL V W n = D := ⟨_, rfl⟩
  have hdl : D.length ≤ 300 := by rw [← hD']; have := dfL_length V W n; omega
  have hdm : ∀ k, k < D.length → -9223372036854775808 ≤ D.getD k 0 ∧ D.getD k 0 ≤ 9223372036854775807 := fun k hk => by
    have := dfL_mem V W n _ (by rw [hD']; exact getD_mem hk)
    omega
  have HDM := Lib.hid hdm
  rw [hD'] at HF HD
  clear hW hZ hn hE hz hF hD hch hL hO hVl hD' hdm
  go_enter Tryz.func3, Tryz.ntmps3
  go_wp2_with fail
  refine (alive5_any _).mono ?_; rintro e w1 ⟨rfl, hb⟩
  have HB1 := Lib.hid hb
  have hby := bytes_any W o c w1 (HW.out.later hb) (by rw [HN.out]; omega)
  rw [HN.out] at hby
  have HBY := Lib.hid hby
  clear hb hby
  go_wp2_with fail
  refine HBY.out.mono ?_; rintro e w2 ⟨B, rfl, hb, _, hM⟩
  rw [HN.out]
  have HB2 := Lib.hid (Kit.step HB1.out hb)
  have HM2 := Lib.hid hM
  have HIN := Lib.hid (ints_any z oz cz w2 (HZ.out.later HB2.out) (by omega))
  clear hb hM HBY
  go_wp2_with fail
  refine HIN.out.mono ?_; rintro e w3 ⟨B', rfl, hb, _, hM'⟩
  have HB3 := Lib.hid (Kit.step HB2.out hb)
  have HM3 := Lib.hid (HM2.out.later hb)
  have HI3 := Lib.hid hM'
  have hfx := HF.out w3 (some ⟨B, 0, none⟩) (W.length + 6) (some ⟨B', 0, none⟩) (z.length + 4) (HM3.out.row (by rw [HN.out]; unfold maxLen; omega)) (hM'.row (by omega)) (HE.out.later HB3.out)
  rw [HN.out] at hfx
  have HFX := Lib.hid hfx
  clear hb hM' hfx HIN HF HM2
  go_wp2_with fail
  refine HFX.out.mono ?_; rintro e w4 ⟨xa, xb, rfl, ⟨oa, ca, rfl, hra⟩, ⟨ob, cb, rfl, hrb⟩, hb⟩
  rw [HVL.out]
  have HRA4 := Lib.hid hra
  have HRB4 := Lib.hid hrb
  have h5 := hra.le
  have h6 := hra.cap
  have h7 := hrb.le
  have h8 := hrb.cap
  simp only [bytesV_length, intsV_length] at h5 h7
  rw [HVL.out] at h5
  unfold maxLen at h6 h8
  clear hra hrb
  have HB4 := Lib.hid (Kit.step HB3.out hb)
  have HM4 := Lib.hid (HM3.out.later hb)
  have HI4 := Lib.hid (HI3.out.later hb)
  obtain ⟨w5, hw5⟩ : ∃ w5, w4.alloc (.cells #[.slice oa n ca, .slice ob D.length cb, .int .i64 (L : Int)] 28) = w5 := ⟨_, rfl⟩
  have hb5 : Below w4.heap.size w4 w5 := by rw [← hw5]; exact (Below.refl _ _).alloc (Nat.le_refl _) _
  have hg5 : w5.heap[w4.heap.size]? = some (.cells #[.slice oa n ca, .slice ob D.length cb, .int .i64 (L : Int)] 28 (0, 0)) := by rw [← hw5]; exact World.alloc_heap_new _ _
  obtain ⟨gf, hgf⟩ : ∃ gf, w4.heap.size = gf := ⟨_, rfl⟩
  rw [hgf] at hg5
  have HG5 := Lib.hid hg5
  have HB5 := Lib.hid (Kit.step HB4.out hb5)
  have HM5 := Lib.hid (HM4.out.later hb5)
  have HI5 := Lib.hid (HI4.out.later hb5)
  have HRA5 := Lib.hid (HRA4.out.later hb5)
  have HRB5 := Lib.hid (HRB4.out.later hb5)
  have HDX := Lib.hid (HD.out w5 o c oz cz (HW.out.later HB5.out) (HZ.out.later HB5.out))
  have HW5 := Lib.hid hw5
  have HGF := Lib.hid hgf
  clear hb hb5 hg5 hw5 hgf HFX HM3 HI3 HD
  go_wp2_with fail
  rw [HW5.out, HGF.out]
  refine HDX.out.mono ?_; rintro e w6 ⟨xc, xd, rfl, ⟨oc, cc, rfl, hrc⟩, ⟨od, cd, rfl, hrd⟩, hb⟩
  rw [HVL.out]
  have HRC6 := Lib.hid hrc
  have HRD6 := Lib.hid hrd
  have HRA6 := Lib.hid (HRA5.out.later hb)
  have HRB6 := Lib.hid (HRB5.out.later hb)
  clear hrc hrd
  have HB6 := Lib.hid (Kit.step HB5.out hb)
  have HM6 := Lib.hid (HM5.out.later hb)
  have HI6 := Lib.hid (HI5.out.later hb)
  have HG6 := Lib.hid (fx_keeps HG5.out hb)
  clear hb HDX
  go_wp2_with fail
  refine (HNN.out w6).mono ?_; rintro e w7 ⟨rfl, rfl⟩
  obtain ⟨hcc0, hcc1, _⟩ := fx_cells HG6.out
  have k1 := conv_rv (⟨oa, ca, rfl, HRA6.out⟩ : RowV V (.slice oa V.length ca) w6)
  have k2 := conv_rv (⟨oc, cc, rfl, HRC6.out⟩ : RowV V (.slice oc V.length cc) w6)
  rw [HVL.out] at k1 k2
  have HSI := Lib.hid (same_ints D ob od cb cd w6 HRB6.out HRD6.out (by omega) HDM.out)
  go_wp2_with fail
  refine HSI.out.mono ?_; rintro e w8 ⟨rfl, hd8⟩
  have HB8 := Lib.hid (Kit.step HB6.out hd8.below)
  have HM8 := Lib.hid (HM6.out.later hd8.below)
  have HI8 := Lib.hid (HI6.out.later hd8.below)
  obtain ⟨_, _, hcc2, _⟩ := fx_cells (fx_keeps HG6.out hd8.below)
  have hkp := kept_any W B o c w8 HM8.out (HW.out.later HB8.out) (by rw [HN.out]; omega)
  rw [HN.out] at hkp
  have HKP := Lib.hid hkp
  have HRC8 := Lib.hid (HRC6.out.later hd8.below)
  clear hd8 hcc0 hcc1 hkp HSI k1 k2
  go_wp2_with fail
  refine HKP.out.mono ?_; rintro e w9 ⟨rfl, hd9⟩
  have HB9 := Lib.hid (Kit.step HB8.out hd9.below)
  have HRC9 := Lib.hid (HRC8.out.later hd9.below)
  have HKI := Lib.hid (kept_ints z B' oz cz w9 (HI8.out.later hd9.below) (HZ.out.later HB9.out) (by omega) HZ2.out)
  clear hd9 hcc2 HKP
  go_wp2_with fail
  refine HKI.out.mono ?_; rintro e w10 ⟨rfl, hd10⟩
  have HBa := Lib.hid (Kit.step HB9.out hd10.below)
  have HOC := Lib.hid (HO.out w10 (HW.out.later HBa.out) (HZ.out.later HBa.out) (HE.out.later HBa.out))
  have HRCa := Lib.hid (HRC9.out.later hd10.below)
  clear hd10 HKI
  go_wp2_with fail
  refine HOC.out.mono ?_; rintro e w11 ⟨hb, ⟨hpos, rfl⟩ | ⟨hz0, x1, rfl, hr1⟩⟩
  · have HBb := Lib.hid (Kit.step HBa.out hb)
    have hdp : decide ((0 : Int) < (L : Int)) = true := decide_eq_true (by omega)
    have hdp' : decide (0 < L) = true := decide_eq_true hpos
    clear hb HOC
    go_wp2_with fail
    refine (HNU.out w11 (HE.out.later HBb.out)).mono ?_; rintro e w12 ⟨rfl, hb⟩
    have HBc := Lib.hid (Kit.step HBb.out hb)
    have k3 := conv_rv (⟨none, 0, rfl, ⟨by simp, by simp, fun _ => rfl, fun h => by simp at h⟩⟩ : RowV [] (.slice none 0 0) w12)
    clear hb
    go_wp2_with fail
    go_ret
    exact ⟨rfl, HBc.out⟩
  · have HBb := Lib.hid (Kit.step HBa.out hb)
    have hrc := HRCa.out.later hb
    subst hz0
    obtain ⟨o1, c1, rfl, hr1⟩ := hr1
    have k3 := conv_rv (⟨o1, c1, rfl, hr1⟩ : RowV V (.slice o1 V.length c1) w11)
    have k4 := conv_rv (⟨oc, cc, rfl, hrc⟩ : RowV V (.slice oc V.length cc) w11)
    rw [HVL.out] at k3 k4 ⊢
    clear hb HOC hr1 hrc
    go_wp2_with fail
    refine (HNN.out w11).mono ?_; rintro e w12 ⟨rfl, rfl⟩
    go_wp2_with fail
    go_ret
    exact ⟨rfl, HBb.out⟩
theorem fi_walk (W : List UInt8) (z : List Int) (o oz : Option Addr) (c cz : Nat) (w : World) (A : Nat → Addr) (hE : Er.Errs w A) (hW : RowIs w o (bytesV W) c) (hZ : RowIs w oz (intsV z) cz) (hz : ∀ p ∈ z, (Lit.int .i64 p).wf = true) :
    Calls Tryz.prog 3 #[.slice o W.length c, .slice oz z.length cz] w fun e w' => e = .returned (.bool true) ∧ Below w.heap.size w w' := by
  have h1 := hW.le
  have h2 := hW.cap
  have h3 := hZ.le
  have h4 := hZ.cap
  simp only [bytesV_length, intsV_length] at h1 h3
  unfold maxLen at h2 h4
  have hz2 : ∀ k, k < z.length → -9223372036854775808 ≤ ci z k ∧ ci z k ≤ 9223372036854775807 := fun k hk => by
    have h1 : ci z k ∈ z := by
      unfold ci
      rw [List.getD_eq_getElem?_getD, List.getElem?_eq_getElem hk]
      exact List.getElem_mem hk
    exact i64_wf (hz _ h1)
  by_cases h : 300 < W.length ∨ 40 < z.length
  · exact fi_long _ _ o oz c cz w h (by omega) (by omega)
  · by_cases hf : 33 ≤ W.length ∧ W.length ≤ 255
    · rcases er_both (W.length : Int) z A (by omega) hz2 with ⟨a, ha⟩ | ⟨m, hm, hg⟩
      · exact fi_err W z W.length a (a + 1) c cz o oz w A hW hZ rfl (by omega) (by omega) hE hz2 ha.lt rfl
          (fun v o c oz cz h1 h2 h3 => cfix_bad W z W.length c cz a o oz v A h1 h2 rfl hf.1 hf.2 h3 ⟨ha.find⟩ _ rfl _ rfl)
          (fun v o c oz cz h1 h2 => rfix_bad W.length cz a (a + 1) z A o oz c v h2 rfl ha.ref)
      · have : m = W.length := by omega
        subst this
        by_cases hex : ∃ v H, Chg v W W.length z H
        · obtain ⟨V, H, hch⟩ := hex
          refine fi_ok W V H z W.length H.length c cz o oz w A hW hZ rfl (by omega) (by omega) hE hz2 hch rfl
            (fun v o c oz cz h1 h2 h3 => (cfix_any W z W.length c cz o oz v A h1 h2 rfl hf.1 hf.2 hg.ok (fun h => absurd hch (h _ _)) _ rfl _ rfl).mono ?_)
            (fun v o c oz cz h1 h2 => (rfix_any W z W.length c cz o oz v h1 h2 rfl hg _ rfl _ rfl).mono ?_)
            (fun v o c oz cz h1 h2 h3 => (only_any W z W.length c cz o oz v A h1 h2 rfl hf.1 hf.2 hg.ok (fun _ => h3)).mono ?_)
          · rintro e w' ⟨hb, ⟨hno, _⟩ | ⟨v', H', x1, x2, hc, rfl, hr, hi⟩⟩
            · exact absurd hch (hno _ _)
            · have hu := hc.uniq hch
              subst hu
              have hl := hc.same hch
              rw [hl]
              rw [dfL_symm] at hi
              exact ⟨x1, x2, rfl, hr, hi, hb⟩
          · rintro e w' ⟨hb, ⟨hno, _⟩ | ⟨v', H', x1, x2, hc, rfl, hr, hi⟩⟩
            · exact absurd hch (hno _ _)
            · have hu := hc.uniq hch
              subst hu
              have hl := hc.same hch
              rw [hl]
              exact ⟨x1, x2, rfl, hr, hi, hb⟩
          · rintro e w' ⟨hb, ⟨hno, rfl⟩ | ⟨v', x1, hc, rfl, hr⟩⟩
            · exact ⟨hb, .inl ⟨by have := hno _ _ hch; omega, rfl⟩⟩
            · have hu := hc.uniq hch
              subst hu
              have hl := hc.same hch
              exact ⟨hb, .inr ⟨by simpa using hl.symm, x1, rfl, hr⟩⟩
        · have hno : ∀ v H, ¬ Chg v W W.length z H := fun v H h => hex ⟨v, H, h⟩
          refine fi_err W z W.length 16 17 c cz o oz w A hW hZ rfl (by omega) (by omega) hE hz2 (by omega) rfl
            (fun v o c oz cz h1 h2 h3 => (cfix_any W z W.length c cz o oz v A h1 h2 rfl hf.1 hf.2 hg.ok (fun _ => h3) _ rfl _ rfl).mono ?_)
            (fun v o c oz cz h1 h2 => (rfix_any W z W.length c cz o oz v h1 h2 rfl hg _ rfl _ rfl).mono ?_)
          · rintro e w' ⟨hb, ⟨_, rfl⟩ | ⟨v', H', x1, x2, hc, _⟩⟩
            · exact ⟨rfl, hb⟩
            · exact absurd hc (hno _ _)
          · rintro e w' ⟨hb, ⟨_, rfl⟩ | ⟨v', H', x1, x2, hc, _⟩⟩
            · exact ⟨rfl, hb⟩
            · exact absurd hc (hno _ _)
    · exact fi_err W z W.length 7 8 c cz o oz w A hW hZ rfl (by omega) (by omega) hE hz2 (by omega) rfl
        (fun v o c oz cz h1 h2 h3 => cfix_size W.length c cz z.length o oz v A h3 hf (by omega) _ rfl)
        (fun v o c oz cz h1 h2 => rfix_bad W.length cz 7 8 z A o oz c v h2 rfl fun v o c hr => by
          refine (res_size z.length c o (W.length : Int) v (by omega) (by have := hr.le; have := hr.cap; unfold maxLen at this; simp at *; omega)).mono ?_
          rintro e w' ⟨rfl, rfl⟩
          exact ⟨rfl, Below.refl _ _⟩)
end Go.Proofs.YtgchfijeiggimaaGreatDoor
