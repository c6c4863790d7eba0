/- The code's parts of rebuilding: nothing but noughts, equal bytes, which blocks are gone, a group's blocks mended, how much was damaged, rows of bytes one behind the other. -/
import Derived.Test.YtgifbpjmblemhaaGreatDoorBm
import Derived.Test.YtgifbpjmblemhaaGreatDoorMb
import Derived.Test.YtgifbpjmblemhaaGreatDoorRep
namespace Go.Proofs.YtgifbpjmblemhaaGreatDoor
open Go.RowKit
set_option linter.unusedVariables false
set_option linter.unusedSimpArgs false
theorem nz_any (x : UInt8) (w : World) : Calls Tryz.prog 29 #[.int .u8 (x.toNat : Int)] w fun e w' => e = .returned (.bool (decide (x ≠ 0))) ∧ w' = w := by
  have hl := UInt8.toNat_lt x
  by_cases h : x = 0
  · subst h
    go_enter Tryz.func29, Tryz.ntmps29
    go_wp2
    go_ret
    exact ⟨rfl, rfl⟩
  · have h0 : ¬ x.toNat = 0 := fun e => h (Gf.u8_ext e)
    have h1 : ((x.toNat : Int) == 0) = false := beq_false_of_ne (by omega)
    have h2 : ((x.toNat : Int) != 0) = true := by rw [bne_iff_ne]; omega
    have hd : decide (x ≠ 0) = true := decide_eq_true h
    rw [hd]
    clear h hd
    go_enter Tryz.func29, Tryz.ntmps29
    go_wp2
    go_ret
    exact ⟨rfl, rfl⟩
def zall (z : List UInt8) : Prop := ∀ i, i < z.length → co z i = 0
def IdxTo (z : List UInt8) (w : World) (e : Ending) (w' : World) : Prop := ∃ r : Int, e = .returned (.int .i64 r) ∧ w' = w ∧ ((r = -1 ∧ zall z) ∨ (0 ≤ r ∧ ¬ zall z))
def NzAt (z : List UInt8) (w : World) (iv : Value) (wr : World) : Prop := ∃ k : Nat, k ≤ z.length ∧ iv = .int .i64 k ∧ (∀ i, i < k → co z i = 0) ∧ wr = w
theorem idx_any (z : List UInt8) (o : Option Addr) (c : Nat) (w : World) (hR : RowIs w o (bytesV z) c) :
    Calls Tryz.prog 41 #[.slice o z.length c, .func (.func 29) #[] #[]] w (IdxTo z w) := by
  have h1 := hR.le
  have h2 := hR.cap
  simp only [bytesV_length] at h1
  unfold maxLen at h2
  have HR := Lib.hid hR
  have hen := enters_of Tryz.func29 (by kernel_rfl) rfl
  clear hR
  go_enter Tryz.func41, Tryz.ntmps41
  go_wp2_with fail
  go_loopw [5, 8] (fun _ iv wr => NzAt z w iv wr) (fun _ iv _ => z.length - (intOf iv).toNat)
  case atStart => exact ⟨0, Nat.zero_le _, rfl, fun i hi => absurd hi (by omega), rfl⟩
  case round =>
    obtain ⟨k, hk, rfl, hz, rfl⟩ := hrel
    have HZ := Lib.hid hz
    clear hz
    by_cases hlt : k < z.length
    · obtain ⟨b, off, rfl, _, hcell⟩ := HR.out.cells (by simp; omega)
      have hc : wr.cell? ⟨b, off + k, none⟩ = some (.int .u8 ((co z k).toNat : Int)) := hcell k _ (bytesV_get z k hlt)
      have hk0 : (0 : Int) ≤ (k : Int) := by omega
      have hk1 : (k : Int) < (z.length : Int) := by omega
      clear hcell
      by_cases h0 : co z k = 0
      · have HN := Lib.hid (nz_any (co z k) wr)
        rw [h0, decide_eq_false (by simp)] at HN
        rw [h0] at hc
        have H0 := Lib.hid h0
        clear h0
        go_wp2_with fail
        refine HN.out.mono ?_; rintro e w' ⟨rfl, rfl⟩
        go_wp2_with fail
        go_roundw
        case rel => exact ⟨k + 1, by omega, by go_num, fun i hi => by
          rcases Nat.lt_or_ge i k with h | h
          · exact HZ.out i h
          · rw [show i = k by omega]; exact H0.out, rfl⟩
        case measure => simp [intOf]; omega
      · have HN := Lib.hid (nz_any (co z k) wr)
        rw [decide_eq_true h0] at HN
        have HNZ : Hid (¬ zall z) := Lib.hid fun hz => h0 (hz k hlt)
        generalize co z k = x at *
        have hxl := UInt8.toNat_lt x
        clear h0
        go_wp2_with fail
        refine HN.out.mono ?_; rintro e w' ⟨rfl, rfl⟩
        go_wp2_with fail
        go_ret
        exact ⟨(k : Int), rfl, rfl, .inr ⟨by omega, HNZ.out⟩⟩
    · obtain rfl : k = z.length := by omega
      go_wp2_with fail
      go_ret
      exact ⟨-1, rfl, rfl, .inl ⟨rfl, HZ.out⟩⟩
theorem noughts_yes (z : List UInt8) (o : Option Addr) (c : Nat) (w : World) (hR : RowIs w o (bytesV z) c) (hz : zall z) :
    Calls Tryz.prog 16 #[.slice o z.length c] w fun e w' => e = .returned (.bool true) ∧ w' = w := by
  have HI : Hid (Calls Tryz.prog 28 #[.slice o z.length c, .func (.func 29) #[] #[]] w fun e w' => e = .returned (.bool false) ∧ w' = w) := Lib.hid (by
    have HX := Lib.hid (idx_any z o c w hR)
    have HZ := Lib.hid hz
    clear hR hz
    go_enter Tryz.func28, Tryz.ntmps28
    go_wp2_with fail
    refine HX.out.mono ?_; rintro e w' ⟨r, rfl, rfl, ⟨rfl, _⟩ | ⟨_, h⟩⟩
    · go_wp2
      go_ret
      exact ⟨rfl, rfl⟩
    · exact absurd HZ.out h)
  clear hR hz
  go_enter Tryz.func16, Tryz.ntmps16
  go_wp2_with fail
  refine HI.out.mono ?_; rintro e w' ⟨rfl, rfl⟩
  go_wp2
  go_ret
  exact ⟨rfl, rfl⟩
theorem noughts_no (z : List UInt8) (o : Option Addr) (c : Nat) (w : World) (hR : RowIs w o (bytesV z) c) (hz : ¬ zall z) :
    Calls Tryz.prog 16 #[.slice o z.length c] w fun e w' => e = .returned (.bool false) ∧ w' = w := by
  have HI : Hid (Calls Tryz.prog 28 #[.slice o z.length c, .func (.func 29) #[] #[]] w fun e w' => e = .returned (.bool true) ∧ w' = w) := Lib.hid (by
    have HX := Lib.hid (idx_any z o c w hR)
    have HZ := Lib.hid hz
    clear hR hz
    go_enter Tryz.func28, Tryz.ntmps28
    go_wp2_with fail
    refine HX.out.mono ?_; rintro e w' ⟨r, rfl, rfl, ⟨rfl, h⟩ | ⟨h0, _⟩⟩
    · exact absurd h HZ.out
    · have hd : decide ((0 : Int) ≤ r) = true := decide_eq_true h0
      go_wp2
      go_ret
      exact ⟨rfl, rfl⟩)
  clear hR hz
  go_enter Tryz.func16, Tryz.ntmps16
  go_wp2_with fail
  refine HI.out.mono ?_; rintro e w' ⟨rfl, rfl⟩
  go_wp2
  go_ret
  exact ⟨rfl, rfl⟩
theorem equal_any (a b : List UInt8) (o o2 : Option Addr) (c c2 : Nat) (w : World) (h1 : RowIs w o (bytesV a) c) (h2 : RowIs w o2 (bytesV b) c2) :
    Calls Tryz.prog 26 #[.slice o a.length c, .slice o2 b.length c2] w fun e w' => e = .returned (.bool (a == b)) ∧ w' = w := by
  have k1 : (convert 24 9 (.slice o a.length c)).run Tryz.prog w = .ok (.string ⟨a.toArray⟩) w := run_string h1 Tryz.underlying24 Tryz.underlying5 Tryz.underlying9 _
  have k2 : (convert 24 9 (.slice o2 b.length c2)).run Tryz.prog w = .ok (.string ⟨b.toArray⟩) w := run_string h2 Tryz.underlying24 Tryz.underlying5 Tryz.underlying9 _
  clear h1 h2
  go_enter Tryz.func26, Tryz.ntmps26
  go_wp2
  go_ret
  exact ⟨rfl, rfl⟩
def DmgAt (G : List (List UInt8)) (vs : Nat → List UInt8) (n : Nat) (w : World) (e c iv : Value) (wr : World) : Prop :=
  ∃ k : Nat, k ≤ n ∧ iv = .int .i64 k ∧ e = .int .i64 ((gnL G k).length : Int) ∧ c = .int .i64 (chN G vs k : Int) ∧ wr = w
set_option maxHeartbeats 1000000 in
theorem damage_any (G Rt : List (List UInt8)) (vs : Nat → List UInt8) (n c c2 : Nat) (o o2 : Option Addr) (w : World) (hG : RbIs w o G c) (hR : RbIs w o2 Rt c2) (hn : G.length = n) (hm : Rt.length = n) (hv : ∀ i, i < n → bi Rt i = mbk vs i) (hl : n ≤ 1000) :
    Calls Tryz.prog 14 #[.slice o n c, .slice o2 n c2] w fun e w' => e = .returned (.tuple #[.int .i64 ((gnL G n).length : Int), .int .i64 (chN G vs n : Int)]) ∧ w' = w := by
  have h1 := hG.le.1
  have h2 := hG.le.2
  have h3 := hR.le.1
  have h4 := hR.le.2
  rw [hn] at h1
  rw [hm] at h3
  unfold maxLen at h2 h4
  have HG := Lib.hid hG
  have HR := Lib.hid hR
  have HN := Lib.hid hn
  have HM := Lib.hid hm
  have HV := Lib.hid hv
  clear hG hR hn hm hv
  go_enter Tryz.func14, Tryz.ntmps14
  go_wp2_with fail
  go_loopw [4, 5, 6, 7, 10] (fun e c _ _ iv wr => DmgAt G vs n w e c iv wr) (fun _ _ _ _ iv _ => n - (intOf iv).toNat)
  case atStart => exact ⟨0, Nat.zero_le _, rfl, rfl, rfl, rfl⟩
  case round =>
    obtain ⟨k, hk, rfl, rfl, rfl, rfl⟩ := hrel
    by_cases hlt : k < n
    · have hk0 : (0 : Int) ≤ (k : Int) := by omega
      have hk1 : (k : Int) < (n : Int) := by omega
      obtain ⟨b1, off1, p, q, rfl, _, hc1, hrow⟩ := HG.out.cell k (by have := HN.out; omega)
      obtain ⟨b2, off2, p2, q2, rfl, _, hc2, hrow2⟩ := HR.out.cell k (by have := HM.out; omega)
      have hgl := gnL_length G k
      have hcl := chN_le G vs k
      have hgs : gnL G (k + 1) = if (bi G k).length = 8 then gnL G k else gnL G k ++ [(k : Int)] := rfl
      have hcs : chN G vs (k + 1) = chN G vs k + if hitB G vs k = true then 1 else 0 := rfl
      by_cases h8 : (bi G k).length = 8
      · rw [if_pos h8] at hgs
        have hEQ := equal_any (bi G k) (bi Rt k) p p2 q q2 wr hrow hrow2
        have hb2 := HV.out k hlt
        rw [hb2, mbk_length] at hc2
        rw [hb2, mbk_length, h8] at hEQ
        rw [h8] at hc1
        have hq1 := hrow.le
        have hq2 := hrow.cap
        simp at hq1
        rw [h8] at hq1
        unfold maxLen at hq2
        by_cases he : bi G k = mbk vs k
        · have HX : Hid (chN G vs (k + 1) = chN G vs k) := Lib.hid (by rw [hcs, if_neg (by simp [hitB, he])]; rfl)
          have HY : Hid ((gnL G (k + 1)).length = (gnL G k).length) := Lib.hid (by rw [hgs])
          rw [he, beq_self_eq_true] at hEQ
          have HEQ := Lib.hid hEQ
          generalize (gnL G k).length = a at *
          generalize chN G vs k = d at *
          clear hgs hcs hEQ hrow hrow2 h8 he hb2
          go_wp2_with fail
          refine (whole_yes _ _ _).mono ?_; rintro e w' ⟨rfl, rfl⟩
          go_wp2_with fail
          refine HEQ.out.mono ?_; rintro e w' ⟨rfl, rfl⟩
          go_wp2_with fail
          go_roundw
          case rel => exact ⟨k + 1, by omega, by go_num, by rw [HY.out], by rw [HX.out], rfl⟩
          case measure => simp [intOf]; omega
        · have HX : Hid (chN G vs (k + 1) = chN G vs k + 1) := Lib.hid (by rw [hcs, if_pos (by simp [hitB, h8, he])])
          have HY : Hid ((gnL G (k + 1)).length = (gnL G k).length) := Lib.hid (by rw [hgs])
          have hbq : (bi G k == mbk vs k) = false := by simpa using he
          rw [hbq] at hEQ
          have HEQ := Lib.hid hEQ
          generalize (gnL G k).length = a at *
          generalize chN G vs k = d at *
          clear hgs hcs hEQ hrow hrow2 h8 he hb2 hbq
          go_wp2_with fail
          refine (whole_yes _ _ _).mono ?_; rintro e w' ⟨rfl, rfl⟩
          go_wp2_with fail
          refine HEQ.out.mono ?_; rintro e w' ⟨rfl, rfl⟩
          go_wp2_with fail
          go_roundw
          case rel => exact ⟨k + 1, by omega, by go_num, by rw [HY.out], by rw [HX.out]; go_num, rfl⟩
          case measure => simp [intOf]; omega
      · rw [if_neg h8] at hgs
        have HX : Hid (chN G vs (k + 1) = chN G vs k) := Lib.hid (by rw [hcs, if_neg (by simp [hitB, h8])]; rfl)
        have HY : Hid ((gnL G (k + 1)).length = (gnL G k).length + 1) := Lib.hid (by rw [hgs]; simp)
        obtain ⟨L, hL⟩ : ∃ L, (bi G k).length = L := ⟨_, rfl⟩
        rw [hL] at hc1 h8
        have hq1 := hrow.le
        have hq2 := hrow.cap
        simp at hq1
        rw [hL] at hq1
        unfold maxLen at hq2
        have HW := Lib.hid (whole_no p L q wr h8 (by omega))
        generalize (gnL G k).length = a at *
        generalize chN G vs k = d at *
        clear hgs hcs hrow hrow2 h8 hL
        go_wp2_with fail
        refine HW.out.mono ?_; rintro e w' ⟨rfl, rfl⟩
        go_wp2_with fail
        go_roundw
        case rel => exact ⟨k + 1, by omega, by go_num, by rw [HY.out]; go_num, by rw [HX.out], rfl⟩
        case measure => simp [intOf]; omega
    · obtain rfl : k = n := by omega
      go_wp2_with fail
      go_ret2
      exact ⟨rfl, rfl⟩
/-- rows one behind the other -/
def catY (bs : List (List UInt8)) : Nat → List UInt8
  | 0 => []
  | k + 1 => catY bs k ++ bi bs k
theorem catY_prt (bs : List (List UInt8)) (vs : Nat → List UInt8) (n k : Nat) (hv : ∀ i, i < n → bi bs i = mbk vs i) (hk : k ≤ n) : catY bs k = prt vs k := by
  induction k with
  | zero => rfl
  | succ k ih => rw [catY, ih (by omega), hv k (by omega), prt_succ]
theorem catY_length (bs : List (List UInt8)) (n k : Nat) (h8 : ∀ i, i < n → (bi bs i).length = 8) (hk : k ≤ n) : (catY bs k).length = 8 * k := by
  induction k with
  | zero => rfl
  | succ k ih => rw [catY, List.length_append, ih (by omega), h8 k (by omega)]; omega
def CyvAt (n : Nat) (w : World) (s iv : Value) (wr : World) : Prop := ∃ k : Nat, k ≤ n ∧ iv = .int .i64 k ∧ s = .int .i64 (8 * k : Nat) ∧ wr = w
def CywAt (bs : List (List UInt8)) (n : Nat) (w : World) (v iv : Value) (wr : World) : Prop :=
  ∃ (k B : Nat), k ≤ n ∧ B = 8 * k ∧ iv = .int .i64 k ∧ wr.ownsRow w.heap.size 5 1 v B (bytesV (catY bs k)) ∧ Below w.heap.size w wr
set_option maxRecDepth 100000 in
set_option maxHeartbeats 2000000 in
theorem concatY_any (bs : List (List UInt8)) (o : Option Addr) (n c : Nat) (w : World) (hP : RbIs w o bs c) (hn : bs.length = n) (h0 : 0 < n) (hl : n ≤ 1000) (h8 : ∀ i, i < n → (bi bs i).length = 8) :
    Calls Tryz.prog 15 #[.slice o n c] w fun e w' => ∃ g cap, e = .returned (.slice (some ⟨g, 0, none⟩) (8 * n) cap) ∧ w.heap.size ≤ g ∧ Buf w' g cap (catY bs n) ∧ Below w.heap.size w w' := by
  have h1 := hP.le.1
  have h2 := hP.le.2
  rw [hn] at h1
  unfold maxLen at h2
  have HP := Lib.hid hP
  have HN := Lib.hid hn
  have H8 := Lib.hid h8
  clear hP hn h8
  go_enter Tryz.func15, Tryz.ntmps15
  go_wp2_with fail
  go_loopw [3, 5, 11] (fun s _ i wr => CyvAt n w s i wr) (fun _ _ i _ => n - (intOf i).toNat)
  case atStart => exact ⟨0, Nat.zero_le _, rfl, rfl, rfl⟩
  case round =>
    obtain ⟨k, hk, rfl, rfl, rfl⟩ := hrel
    obtain ⟨s, hs⟩ : ∃ s, 8 * k = s := ⟨_, rfl⟩
    rw [hs]
    have HS := Lib.hid hs
    by_cases hlt : k < n
    · obtain ⟨b, off, p, q, rfl, _, hc, hr⟩ := HP.out.cell k (by have := HN.out; omega)
      rw [H8.out k hlt] at hc
      have hk0 : (0 : Int) ≤ (k : Int) := by omega
      have hk1 : (k : Int) < (n : Int) := by omega
      have hr1 := hr.le
      have hr2 := hr.cap
      rw [bytesV_length, H8.out k hlt] at hr1
      unfold maxLen at hr2
      have hs1 : s ≤ 10000 := by omega
      have hd : decide ((s : Int) + 8 < 0) = false := decide_eq_false (by omega)
      clear hr hs
      go_wp2_with fail
      go_roundw
      case rel => exact ⟨k + 1, by omega, by go_num, by rw [show 8 * (k + 1) = s + 8 by have := HS.out; omega]; go_num, rfl⟩
      case measure => simp [intOf]; omega
    · obtain rfl : k = n := by omega
      have HG := Lib.hid (grow_nil s wr (by omega) (by omega))
      have hs2 : s ≤ 10000 := by omega
      clear hs
      go_wp2_with fail
      refine HG.out.mono ?_; rintro e w2 ⟨g, cap, rfl, hown, hb⟩
      have HV := Lib.hid hown
      have HB := Lib.hid hb
      clear hown hb HG
      go_wp2_with fail
      go_loopw [6, 8, 27] (fun v _ i wr2 => CywAt bs k wr v i wr2) (fun _ _ i _ => k - (intOf i).toNat)
      case atStart => exact ⟨0, 0, Nat.zero_le _, rfl, rfl, HV.out, HB.out⟩
      case round =>
        rename World => W3
        obtain ⟨i, B, hi, hB, rfl, hv, hb3⟩ := hrel
        have HV3 := Lib.hid hv
        have HB3 := Lib.hid hb3
        have HBB := Lib.hid hB
        by_cases hlt2 : i < k
        · obtain ⟨b, off, p, q, rfl, _, hc, hr⟩ := (HP.out.later hb3).cell i (by have := HN.out; omega)
          rw [H8.out i hlt2] at hc
          have hi0 : (0 : Int) ≤ (i : Int) := by omega
          have hi1 : (i : Int) < (k : Int) := by omega
          have HR := Lib.hid hr
          have HL8 := Lib.hid (H8.out i hlt2)
          have hB1 : B ≤ 10000 := by omega
          clear hr hv hb3 hB
          go_wp2_with (at_builtin; refine append_row rfl (.tmp 31) (.tmp 32) rfl wr.heap.size _ B (catY bs i) rfl HV3.out p 8 q (bi bs i) rfl HL8.out.symm HR.out (by omega) HB3.out.size ?_)
          intro v' w4 hv hg
          have HV4 : Hid (w4.ownsRow wr.heap.size 5 1 v' (B + 8) (bytesV (catY bs (i + 1)))) := Lib.hid hv
          have HB4 := Lib.hid (own_below (n := 0) HB3.out HV3.out hg)
          clear hv hg
          go_wp2_with fail
          go_roundw
          case rel => exact ⟨i + 1, B + 8, by omega, by have := HBB.out; omega, by go_num, HV4.out, HB4.out⟩
          case measure => simp [intOf]; omega
        · obtain rfl : i = k := by omega
          have hcl := catY_length bs i i H8.out (Nat.le_refl _)
          obtain ⟨g2, cap2, rfl, hg2, hbuf⟩ := own_buf hv (by omega) (by rw [hcl, hB])
          rw [hcl]
          have HX := Lib.hid hbuf
          clear hv hb3 hB hbuf hcl
          go_wp2_with fail
          go_ret
          exact ⟨g2, cap2, rfl, hg2, HX.out, HB3.out⟩
end Go.Proofs.YtgifbpjmblemhaaGreatDoor
