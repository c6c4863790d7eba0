/- The walk of StripeShapes; the answer of law06 to its example. -/
import Derived.Test.YtgifbpjmblemhaaDoorSh
import Derived.Test.YtgifbpjmblemhaaDoorErr
namespace Go.Proofs.YtgifbpjmblemhaaDoor
open Go.RowKit
set_option linter.unusedVariables false
set_option linter.unusedSimpArgs false
theorem alive6_any (w : World) : Calls Tryd.prog 7 #[] w fun e w' => e = .returned (.bool true) ∧ Below w.heap.size w w' := by
  have h := ctotal_any 0 w (by omega)
  rw [show totN (nbk 0) = 33 from rfl] at h
  have H : Hid (Calls Tryd.prog 11 #[.int .i64 0] w fun e w' => e = .returned (.tuple #[.int .i64 33, .nilIface]) ∧ Below w.heap.size w w') := Lib.hid h
  clear h
  go_enter Tryd.func7, Tryd.ntmps7
  go_wp2_with fail
  refine H.out.mono ?_; rintro e w1 ⟨rfl, hb⟩
  have HB := Lib.hid hb
  clear hb H
  go_wp2_with fail
  go_ret
  exact ⟨rfl, HB.out⟩
theorem atG_mono (l : List Nat) (k d : Nat) (h : k + d ≤ l.length) : atG l k ≤ atG l (k + d) := by
  induction d with
  | zero => exact Nat.le_refl _
  | succ d ih =>
    have h1 := atG_succ l (k + d) (by omega)
    have h2 := ih (by omega)
    have h3 : atG l (k + (d + 1)) = atG l (k + d + 1) := rfl
    omega
theorem ints_nil6 (w : World) : RowIs w none (intsV []) 0 := ⟨by simp, by simp, fun _ => rfl, fun h => by simp at h⟩
theorem ssh_bad (n p : Int) (w : World) (A : Nat → Addr) (hE : Er.Errs w A) (h : n < 0 ∨ 2000 < n) :
    Calls Tryd.prog 4 #[.int .i64 n, .int .i64 p] w fun e w' => e = .returned (.bool true) ∧ Below w.heap.size w w' := by
  have HE := Lib.hid hE
  have HS : Hid (∀ v, Er.Errs v A → Calls Tryd.prog 17 #[.int .i64 n] v fun e w' => e = .returned (.tuple #[.slice none 0 0, .iface 160 (.pointer (some (A 7)))]) ∧ Below v.heap.size v w') := Lib.hid fun v hv => shape_bad n v _ _ h hv.c7
  have HG : Hid (∀ v, Er.Errs v A → Calls Tryd.prog 19 #[.int .i64 n, .int .i64 p] v fun e w' => e = .returned (.tuple #[.int .i64 0, .int .i64 0, .iface 160 (.pointer (some (A 7)))]) ∧ Below v.heap.size v w') := Lib.hid fun v hv => group_bad n p v _ _ h hv.c7
  have HR := Lib.hid (fun v => rshape_bad n v h)
  have HN : Hid (∀ v, Er.Errs v A → Calls Tryd.prog 12 #[.iface 160 (.pointer (some (A 7)))] v fun e w' => e = .returned (.int .i64 8) ∧ Below v.heap.size v w') := Lib.hid fun v hv => Er.num_of A 7 (by omega) v hv
  have HSI : Hid (∀ v, Calls Tryd.prog 20 #[.slice none 0 0, .slice none 0 0] v fun e w' => e = .returned (.bool true) ∧ Kit.Dn v w') := Lib.hid fun v => same_ints [] none none 0 0 v (ints_nil6 v) (ints_nil6 v) (by simp) (fun k h => absurd h (by simp))
  clear hE h
  go_enter Tryd.func4, Tryd.ntmps4
  go_wp2_with fail
  refine (alive6_any _).mono ?_; rintro e w1 ⟨rfl, hb⟩
  have HB1 := Lib.hid hb
  clear hb
  go_wp2_with fail
  refine (HS.out _ (HE.out.later HB1.out)).mono ?_; rintro e w2 ⟨rfl, hb⟩
  have HB2 := Lib.hid (Kit.step HB1.out hb)
  clear hb
  go_wp2_with fail
  refine (HR.out _).mono ?_; rintro e w2' ⟨rfl, rfl⟩
  go_wp2_with fail
  refine (HG.out _ (HE.out.later HB2.out)).mono ?_; rintro e w3 ⟨rfl, hb⟩
  have HB3 := Lib.hid (Kit.step HB2.out hb)
  clear hb
  go_wp2_with fail
  refine (HN.out _ (HE.out.later HB3.out)).mono ?_; rintro e w4 ⟨rfl, hb⟩
  have HB4 := Lib.hid (Kit.step HB3.out hb)
  clear hb
  go_wp2_with fail
  refine (HSI.out _).mono ?_; rintro e w5 ⟨rfl, hb⟩
  have HB5 := Lib.hid (Kit.step HB4.out hb.below)
  clear hb
  go_wp2_with fail
  refine (HN.out _ (HE.out.later HB5.out)).mono ?_; rintro e w6 ⟨rfl, hb⟩
  have HB6 := Lib.hid (Kit.step HB5.out hb)
  clear hb
  go_wp2_with fail
  go_ret
  exact ⟨rfl, HB6.out⟩
def ShAt (l : List Nat) (g : Nat) (w : World) (a i : Value) (wr : World) : Prop := ∃ k : Nat, k ≤ g ∧ i = .int .i64 k ∧ a = .int .i64 ((atG l k : Nat) : Int) ∧ Kit.Dn w wr
set_option maxRecDepth 100000 in
set_option maxHeartbeats 2000000 in
theorem ssh_good (n : Nat) (l : List Nat) (hlq : shp n = l) (p : Int) (w : World) (A : Nat → Addr) (hE : Er.Errs w A) (hn : n ≤ 2000) (hp : -9223372036854775808 ≤ p ∧ p ≤ 9223372036854775807) :
    Calls Tryd.prog 4 #[.int .i64 (n : Int), .int .i64 p] w fun e w' => e = .returned (.bool true) ∧ Below w.heap.size w w' := by
  have HE := Lib.hid hE
  have hs := fun v => shape_any n v hn
  have hr := fun v => rshape_any n v hn
  have hl := shp_len n
  have hss := shp_sum n
  have hnb := nbk_bd n hn
  rw [hlq] at hs hr hl hss
  have HS := Lib.hid hs
  have HR := Lib.hid hr
  have HSS := Lib.hid hss
  have HG : Hid (∀ v, Er.Errs v A → Calls Tryd.prog 19 #[.int .i64 (n : Int), .int .i64 p] v (GrTo l p 160 (.pointer (some (A 0))) v)) := Lib.hid fun v hv => group_any n l hlq p v _ _ hn hp hv.c0
  have HN : Hid (∀ v, Er.Errs v A → Calls Tryd.prog 12 #[.iface 160 (.pointer (some (A 0)))] v fun e w' => e = .returned (.int .i64 1) ∧ Below v.heap.size v w') := Lib.hid fun v hv => Er.num_of A 0 (by omega) v hv
  have hsi : ∀ v o c o2 c2, RowIs v o (intsV (natI l)) c → RowIs v o2 (intsV (natI l)) c2 → Calls Tryd.prog 20 #[.slice o l.length c, .slice o2 l.length c2] v fun e w' => e = .returned (.bool true) ∧ Kit.Dn v w' := fun v o c o2 c2 h1 h2 => by
    have := same_ints (natI l) o o2 c c2 v h1 h2 (by simp; omega) (fun k hk => by
      rw [natI_getD]
      have h3 := sumN_take_succ l k (by simpa using hk)
      have h4 := sumN_take_le l (k + 1)
      omega)
    rwa [natI_length] at this
  have HSI := Lib.hid hsi
  clear hE hs hr hss hsi hlq hn
  go_enter Tryd.func4, Tryd.ntmps4
  go_wp2_with fail
  refine (alive6_any _).mono ?_; rintro e w1 ⟨rfl, hb⟩
  have HB1 := Lib.hid hb
  clear hb
  go_wp2_with fail
  refine (HS.out _).mono ?_; rintro e w2 ⟨x, rfl, ⟨o, c, rfl, hr⟩, hb⟩
  have HB2 := Lib.hid (Kit.step HB1.out hb)
  have HR2 := Lib.hid hr
  rw [natI_length]
  clear hb hr
  go_wp2_with fail
  refine (HR.out _).mono ?_; rintro e w3 ⟨x, rfl, ⟨o2, c2, rfl, hr⟩, hb⟩
  have HB3 := Lib.hid (Kit.step HB2.out hb)
  have HR3 := Lib.hid (HR2.out.later hb)
  have HQ3 := Lib.hid hr
  rw [natI_length]
  have hc2 := hr.cap
  have hle2 := hr.le
  simp at hle2
  unfold maxLen at hc2
  clear hb hr HR2
  go_wp2_with fail
  refine (HG.out _ (HE.out.later HB3.out)).mono ?_; rintro e w4 ⟨hb, ⟨g, hg, hp1, hp2, rfl⟩ | ⟨hout, rfl⟩⟩
  · have HB4 := Lib.hid (Kit.step HB3.out hb)
    have HR4 := Lib.hid (HR3.out.later hb)
    have HQ4 := Lib.hid (HQ3.out.later hb)
    have HP1 := Lib.hid hp1
    have HP2 := Lib.hid hp2
    have HGL := Lib.hid hg
    obtain ⟨q, hq⟩ : ∃ q, p - (atG l g : Int) = q := ⟨_, rfl⟩
    have HQE := Lib.hid hq
    rw [hq]
    clear hb hp1 hp2 hq hg
    go_wp2_with fail
    refine (Er.num_nil _).mono ?_; rintro e w4' ⟨rfl, rfl⟩
    go_wp2_with fail
    refine (HSI.out _ _ _ _ _ HR4.out HQ4.out).mono ?_; rintro e w5 ⟨rfl, hd⟩
    have HB5 := Lib.hid (Kit.step HB4.out hd.below)
    have HQ5 := Lib.hid (HQ4.out.later hd.below)
    clear hd
    go_wp2_with fail
    go_loopw [12, 13, 14, 60] (fun a _ _ i wr => ShAt l g w5 a i wr) (fun _ _ _ i _ => l.length - (intOf i).toNat)
    case atStart => exact ⟨0, Nat.zero_le _, rfl, by rw [atG_zero]; rfl, Kit.Dn.refl _⟩
    case round =>
      obtain ⟨k, hk, rfl, rfl, hd⟩ := hrel
      have HD := Lib.hid hd
      have hgl := HGL.out
      have hlt : k < l.length := by omega
      obtain ⟨b, off, rfl, _, hc⟩ := natI_cell (HQ5.out.later hd.below) k hlt
      change wr.cell? _ = some (.int .i64 ((szG l k : Nat) : Int)) at hc
      have hst := atG_succ l k hlt
      have hle := atG_le l k hlt
      rw [HSS.out] at hle
      have hk0 : (0 : Int) ≤ (k : Int) := by omega
      have hk1 : (k : Int) < (l.length : Int) := by omega
      have hm := atG_mono l k (g - k) (by omega)
      rw [show k + (g - k) = g by omega] at hm
      have hp1 := HP1.out
      have hp2 := HP2.out
      by_cases he : k = g
      · subst he
        have hqe := HQE.out
        generalize atG l k = a at *
        generalize szG l k = s at *
        have hd1 : decide ((a : Int) ≤ p) = true := decide_eq_true (by omega)
        have hd2 : decide (p < (a : Int) + (s : Int) + 32) = true := decide_eq_true (by omega)
        have hw : p - (a : Int) = q := hqe
        have HW := Lib.hid hw
        have hq0 : 0 ≤ q := by omega
        have hq1 : q ≤ 20000 := by omega
        have ha : a ≤ 10000 := by omega
        have hs : s ≤ 10000 := by omega
        have HQW : Hid (wrap64 q = q) := Lib.hid (by unfold wrap64; omega)
        clear hd hst hle hm hp1 hp2 hqe hw hgl hlt
        go_wp2_with (first | rw [HW.out])
        go_ret
        exact ⟨by rw [HQW.out, beq_self_eq_true]; rfl, HB5.out.trans (HD.out.below.mono HB5.out.size)⟩
      · have hm2 := atG_mono l (k + 1) (g - (k + 1)) (by omega)
        rw [show k + 1 + (g - (k + 1)) = g by omega] at hm2
        have hkg : k < g := by omega
        obtain ⟨a, ha⟩ : ∃ a, atG l k = a := ⟨_, rfl⟩
        obtain ⟨s, hs⟩ : ∃ s, szG l k = s := ⟨_, rfl⟩
        rw [ha] at hst hle hm ⊢
        rw [hs] at hst hle hc
        have hd1 : decide ((a : Int) ≤ p) = true := decide_eq_true (by omega)
        have hd2 : decide (p < (a : Int) + (s : Int) + 32) = false := decide_eq_false (by omega)
        have ha1 : a ≤ 10000 := by omega
        have hs1 : s ≤ 10000 := by omega
        have HX : Hid (atG l (k + 1) = a + (s + 32)) := Lib.hid hst
        clear hd hst hle hm hm2 hp1 hp2 hgl hlt he ha hs
        go_wp2_with fail
        go_roundw
        case rel => exact ⟨k + 1, by omega, by go_num, by rw [HX.out]; go_num, HD.out⟩
        case measure => simp [intOf]; omega
  · have HB4 := Lib.hid (Kit.step HB3.out hb)
    have HR4 := Lib.hid (HR3.out.later hb)
    have HQ4 := Lib.hid (HQ3.out.later hb)
    have HO := Lib.hid hout
    clear hb hout
    go_wp2_with fail
    refine (Er.num_nil _).mono ?_; rintro e w4' ⟨rfl, rfl⟩
    go_wp2_with fail
    refine (HSI.out _ _ _ _ _ HR4.out HQ4.out).mono ?_; rintro e w5 ⟨rfl, hd⟩
    have HB5 := Lib.hid (Kit.step HB4.out hd.below)
    have HQ5 := Lib.hid (HQ4.out.later hd.below)
    clear hd
    go_wp2_with fail
    go_loopw [12, 13, 14, 60] (fun a _ _ i wr => ShAt l l.length w5 a i wr) (fun _ _ _ i _ => l.length - (intOf i).toNat)
    case atStart => exact ⟨0, Nat.zero_le _, rfl, by rw [atG_zero]; rfl, Kit.Dn.refl _⟩
    case round =>
      obtain ⟨k, hk, rfl, rfl, hd⟩ := hrel
      have HD := Lib.hid hd
      by_cases hlt : k < l.length
      · obtain ⟨b, off, rfl, _, hc⟩ := natI_cell (HQ5.out.later hd.below) k hlt
        change wr.cell? _ = some (.int .i64 ((szG l k : Nat) : Int)) at hc
        have hst := atG_succ l k hlt
        have hle := atG_le l k hlt
        rw [HSS.out] at hle
        have hk0 : (0 : Int) ≤ (k : Int) := by omega
        have hk1 : (k : Int) < (l.length : Int) := by omega
        have hm2 := atG_mono l (k + 1) (l.length - (k + 1)) (by omega)
        rw [show k + 1 + (l.length - (k + 1)) = l.length by omega] at hm2
        obtain ⟨a, ha⟩ : ∃ a, atG l k = a := ⟨_, rfl⟩
        obtain ⟨s, hs⟩ : ∃ s, szG l k = s := ⟨_, rfl⟩
        rw [ha] at hst hle ⊢
        rw [hs] at hst hle hc
        have ha1 : a ≤ 10000 := by omega
        have hs1 : s ≤ 10000 := by omega
        have HX : Hid (atG l (k + 1) = a + (s + 32)) := Lib.hid hst
        have hout := HO.out
        by_cases h0 : p < 0
        · have hd1 : decide ((a : Int) ≤ p) = false := decide_eq_false (by omega)
          clear hd hst hle hm2 hout hlt ha hs h0
          go_wp2_with fail
          go_roundw
          case rel => exact ⟨k + 1, by omega, by go_num, by rw [HX.out]; go_num, HD.out⟩
          case measure => simp [intOf]; omega
        · have hd1 : decide ((a : Int) ≤ p) = true := decide_eq_true (by omega)
          have hd2 : decide (p < (a : Int) + (s : Int) + 32) = false := decide_eq_false (by omega)
          clear hd hst hle hm2 hout hlt ha hs h0
          go_wp2_with fail
          go_roundw
          case rel => exact ⟨k + 1, by omega, by go_num, by rw [HX.out]; go_num, HD.out⟩
          case measure => simp [intOf]; omega
      · obtain rfl : k = l.length := by omega
        have HBE := Lib.hid (HB5.out.trans (hd.below.mono HB5.out.size))
        clear hd hlt
        go_wp2_with fail
        refine (HN.out _ (HE.out.later HBE.out)).mono ?_; rintro e w6 ⟨rfl, hb⟩
        have HB6 := Lib.hid (Kit.step HBE.out hb)
        clear hb
        go_wp2_with fail
        go_ret
        exact ⟨rfl, HB6.out⟩
theorem ssh_walk (n p : Int) (w : World) (A : Nat → Addr) (hE : Er.Errs w A) (hp : -9223372036854775808 ≤ p ∧ p ≤ 9223372036854775807) :
    Calls Tryd.prog 4 #[.int .i64 n, .int .i64 p] w fun e w' => e = .returned (.bool true) ∧ Below w.heap.size w w' := by
  by_cases h : n < 0 ∨ 2000 < n
  · exact ssh_bad n p w A hE h
  · obtain ⟨m, rfl⟩ := Int.eq_ofNat_of_zero_le (show 0 ≤ n by omega)
    exact ssh_good m _ rfl p w A hE (by omega) hp
end Go.Proofs.YtgifbpjmblemhaaDoor
