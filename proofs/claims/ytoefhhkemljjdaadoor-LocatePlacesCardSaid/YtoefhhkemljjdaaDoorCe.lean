/- The code's Erasures. -/
import Derived.Test.YtoefhhkemljjdaaDoorCb
import Derived.Test.YtoefhhkemljjdaaDoorMi
import Derived.Test.YtoefhhkemljjdaaDoorSy
namespace Go.Proofs.YtoefhhkemljjdaaDoor
open Go.RowKit
set_option linter.unusedVariables false
set_option linter.unusedSimpArgs false
/-- these places may be erased -/
def EOk (n : Nat) (z : List Int) : Prop := (∀ k, k < z.length → 0 ≤ ci z k ∧ ci z k < n) ∧ (∀ i j, j < i → i < z.length → ci z i ≠ ci z j) ∧ z.length ≤ 32
def er_v (A : Nat → Addr) (k : Nat) : Ending := .returned (.tuple #[.slice none 0 0, .iface 122 (.pointer (some (A k)))])
def CErTo (n : Nat) (z : List Int) (A : Nat → Addr) (w : World) (e : Ending) (w' : World) : Prop :=
  Below w.heap.size w w' ∧ (((∃ k, k < z.length ∧ (ci z k < 0 ∨ (n : Int) ≤ ci z k)) ∧ e = er_v A 0) ∨
    ((∀ k, k < z.length → 0 ≤ ci z k ∧ ci z k < n) ∧ (((∃ i j, j < i ∧ i < z.length ∧ ci z i = ci z j) ∧ e = er_v A 9) ∨
      ((∀ i j, j < i → i < z.length → ci z i ≠ ci z j) ∧ ((32 < z.length ∧ e = er_v A 15) ∨
        (z.length ≤ 32 ∧ ∃ x, e = .returned (.tuple #[x, .nilIface]) ∧ RowV (tr (prodL (fun r => [1, r]) (xsL n z) z.length)) x w'))))))
theorem errs_drew {w : World} {A : Nat → Addr} (h : Er.Errs w A) : Er.Errs w.drew A := h.later (Kit.dn' w 1)
set_option maxRecDepth 100000 in
set_option maxHeartbeats 2000000 in
theorem cer_size (m c : Nat) (o : Option Addr) (n : Int) (w : World) (A : Nat → Addr) (hE : Er.Errs w A) (h : ¬ (33 ≤ n ∧ n ≤ 255)) :
    Calls Tryd.prog 10 #[.int .i64 n, .slice o m c] w fun e w' => e = er_v A 7 ∧ Below w.heap.size w w' := by
  have hE1 := (hE.later ((Below.refl _ _).alloc (Nat.le_refl _) (.cells #[.int .i64 n] 3))).c7
  by_cases h1 : n ≤ 32
  · have hd1 : decide (n ≤ 32) = true := decide_eq_true h1
    clear hE h h1
    go_enter Tryd.func10, Tryd.ntmps10
    go_wp2_with fail
    go_quiet (fail)
    go_wp2
    go_ret2
    exact ⟨rfl, ((Below.refl _ _).alloc (Nat.le_refl _) _).trans ⟨rfl, rfl, rfl, Nat.le_refl _, fun _ _ => rfl⟩⟩
  · have hd1 : decide (n ≤ 32) = false := decide_eq_false h1
    have hd2 : decide (255 < n) = true := decide_eq_true (by omega)
    clear hE h h1
    go_enter Tryd.func10, Tryd.ntmps10
    go_wp2_with fail
    go_quiet (fail)
    go_wp2
    go_ret2
    exact ⟨rfl, ((Below.refl _ _).alloc (Nat.le_refl _) _).trans ⟨rfl, rfl, rfl, Nat.le_refl _, fun _ _ => rfl⟩⟩
def CeAt (n : Nat) (z : List Int) (w w2 : World) (v i : Value) (wr : World) : Prop :=
  ∃ k : Nat, k ≤ z.length ∧ i = .int .i64 k ∧ wr.ownsRow w2.heap.size 5 1 v k (bytesV ((xsL n z).take k)) ∧ Below w2.heap.size w2 wr
set_option maxRecDepth 100000 in
set_option maxHeartbeats 4000000 in
theorem cer_any (z : List Int) (n c : Nat) (o : Option Addr) (w : World) (A : Nat → Addr) (hS : RowIs w o (intsV z) c) (hn1 : 33 ≤ n) (hn2 : n ≤ 255) (hl : z.length ≤ 900) (hE : ¬ EOk n z → Er.Errs w A) :
    Calls Tryd.prog 10 #[.int .i64 n, .slice o z.length c] w (CErTo n z A w) := by
  have h1 := hS.le
  have h2 := hS.cap
  simp only [intsV_length] at h1
  unfold maxLen at h2
  obtain ⟨w1, hw1⟩ : ∃ w1, w.alloc (.cells #[.int .i64 (n : Int)] 3) = w1 := ⟨_, rfl⟩
  have hb1 : Below w.heap.size w w1 := by rw [← hw1]; exact (Below.refl _ _).alloc (Nat.le_refl _) _
  have hq1 : Boxed w1 w.heap.size 3 (.int .i64 (n : Int)) := by rw [← hw1]; exact Boxed.new w _ _
  have hS1 := hS.later hb1
  have hcc := ccontains_any z n w.heap.size c o w1 hS1 hq1
  rw [← hw1] at hcc
  have HCC := Lib.hid hcc
  have HB1 := Lib.hid hb1
  have HQ1 := Lib.hid hq1
  have HS1 := Lib.hid hS1
  have HW1 := Lib.hid hw1
  have HE : Hid (¬ EOk n z → Er.Errs w1 A) := Lib.hid fun h => (hE h).later hb1
  have hd1 : decide ((n : Int) ≤ 32) = false := decide_eq_false (by omega)
  have hd2 : decide (255 < (n : Int)) = false := decide_eq_false (by omega)
  clear hS hE hb1 hq1 hS1 hcc hw1
  go_enter Tryd.func10, Tryd.ntmps10
  go_wp2_with fail
  refine HCC.out.mono ?_; rintro e w2 ⟨he, hx⟩
  rw [HW1.out] at he
  subst he
  rcases hx with ⟨hbad, rfl⟩ | ⟨hin, rfl⟩
  · have hE0 := (HE.out (fun h => by obtain ⟨k, hk, hb⟩ := hbad; have := h.1 k hk; omega)).c0
    have HBAD := Lib.hid hbad
    clear hbad
    go_wp2_with fail
    go_quiet (fail)
    go_wp2
    go_ret2
    exact ⟨HB1.out.trans ⟨rfl, rfl, rfl, Nat.le_refl _, fun _ _ => rfl⟩, .inl ⟨HBAD.out, rfl⟩⟩
  · have HIN := Lib.hid hin
    have HDB := Lib.hid (doubled_any z n c o w2 HS1.out hn2 hin)
    clear hin
    go_wp2_with fail
    refine HDB.out.mono ?_; rintro e w3 ⟨hb3, ⟨hdup, rfl⟩ | ⟨hdis, rfl⟩⟩
    · have hE9 := ((HE.out (fun h => by obtain ⟨i, j, h1, h2, h3⟩ := hdup; exact h.2.1 i j h1 h2 h3)).later hb3).c9
      have HDUP := Lib.hid hdup
      have HB3 := Lib.hid (Kit.step HB1.out hb3)
      clear hdup hb3
      go_wp2_with fail
      go_quiet (fail)
      go_wp2
      go_ret2
      exact ⟨HB3.out.trans ⟨rfl, rfl, rfl, Nat.le_refl _, fun _ _ => rfl⟩, .inr ⟨HIN.out, .inl ⟨HDUP.out, rfl⟩⟩⟩
    · have HDIS := Lib.hid hdis
      have HB3 := Lib.hid (Kit.step HB1.out hb3)
      have HS3 := Lib.hid (HS1.out.later hb3)
      have HQ3 := Lib.hid (boxed_later HQ1.out hb3)
      by_cases h32 : 32 < z.length
      · have hd32 : decide ((32 : Int) < (z.length : Int)) = true := decide_eq_true (by omega)
        have hE15 := ((HE.out (fun h => by have := h.2.2; omega)).later hb3).c15
        clear hdis hb3
        go_wp2_with fail
        go_quiet (fail)
        go_wp2
        go_ret2
        exact ⟨HB3.out.trans ⟨rfl, rfl, rfl, Nat.le_refl _, fun _ _ => rfl⟩, .inr ⟨HIN.out, .inr ⟨HDIS.out, .inl ⟨h32, rfl⟩⟩⟩⟩
      · have hd32 : decide ((32 : Int) < (z.length : Int)) = false := decide_eq_false (by omega)
        clear hdis hb3
        go_wp2_with fail
        go_loopw [7, 9, 35] (fun v _ i wr => CeAt n z w w3 v i wr) (fun _ _ i _ => z.length - (intOf i).toNat)
        case atStart => exact ⟨0, Nat.zero_le _, rfl, World.ownsRow_nil _ _ _ _, Below.refl _ _⟩
        case round =>
          obtain ⟨k, hk, rfl, hv, hb⟩ := hrel
          have HV := Lib.hid hv
          have HB := Lib.hid hb
          by_cases hlt : k < z.length
          · obtain ⟨b, off, rfl, hcell⟩ := ints_cell (HS3.out.later hb) k hlt
            have hin := HIN.out k hlt
            have hcx := co_xsL n z k hlt
            obtain ⟨p, hp⟩ := Int.eq_ofNat_of_zero_le hin.1
            rw [hp] at hcell hin hcx
            have HPW : Hid (∀ v, Calls Tryd.prog 36 #[.int .i64 (n : Int), .int .i64 (p : Int)] v fun e w' => e = .returned (.int .u8 ((co (xsL n z) k).toNat : Int)) ∧ w' = v) := Lib.hid fun v => by
              have := cpower_any (n : Int) (p : Int) v
              rwa [pwv, if_pos ⟨by omega, by omega, by omega, by omega⟩, show ((n : Int) - 1 - (p : Int)).toNat = n - 1 - p by omega, ← (show co (xsL n z) k = Gf.al (n - 1 - p) from hcx)] at this
            have HTS : Hid ((xsL n z).take k ++ [co (xsL n z) k] = (xsL n z).take (k + 1)) := Lib.hid (take_step (xsL n z) k (by simp [xsL]; omega)).symm
            obtain ⟨x, hx⟩ : ∃ x, co (xsL n z) k = x := ⟨_, rfl⟩
            rw [hx] at HPW HTS
            have hxl := UInt8.toNat_lt x
            have hqn := (boxed_later HQ3.out hb).cell
            have hk0 : (0 : Int) ≤ (k : Int) := by omega
            have hk1 : (k : Int) < (z.length : Int) := by omega
            have HV2 := Lib.hid (World.ownsRow.alloc HV.out (.cells (bytesV [x]).toArray 5))
            have HB2' := Lib.hid (HB.out.alloc HB.out.size (.cells (bytesV [x]).toArray 5))
            clear hp hin hcx hx hv hb
            go_wp2_with fail
            refine (HPW.out _).mono ?_; rintro e w' ⟨rfl, rfl⟩
            go_wp2_with (at_builtin; refine append_row rfl (.tmp 39) (.tmp 43) rfl w3.heap.size _ k ((xsL n z).take k) rfl HV2.out _ 1 1 [x] rfl rfl (row_cells (World.alloc_heap_new _ _) (by unfold maxLen; simp)) (by omega) HB2'.out.size ?_)
            intro v' w' hv hg
            rw [HTS.out] at hv
            have HV3 := Lib.hid hv
            have HB3' := Lib.hid (own_below (n := 0) HB2'.out HV2.out hg)
            clear hv hg
            go_wp2
            go_roundw
            case rel => exact ⟨k + 1, by omega, by go_num, HV3.out, HB3'.out⟩
            case measure => simp [intOf]; omega
          · obtain rfl : k = z.length := by omega
            have hfull : (xsL n z).take z.length = xsL n z := List.take_of_length_le (by simp [xsL])
            have hxl : (xsL n z).length = z.length := by simp [xsL]
            obtain ⟨o3, c3, rfl, hr⟩ := owns_rv HV.out (by simp [xsL])
            rw [hfull] at hr
            have hi := inverses_any (xsL n z) o3 c3 wr (by rw [hxl]; omega) hr
            rw [hxl] at hi
            have HI := Lib.hid hi
            have HBW := Lib.hid (Kit.step HB3.out hb)
            have HLEN : Hid (((xsL n z).take z.length).length = z.length) := Lib.hid (by rw [hfull, hxl])
            clear hi hr hv hb hfull
            rw [HLEN.out]
            go_wp2_with fail
            refine HI.out.mono ?_; rintro e w4 ⟨g, cap, rfl, hg, hb4, hr4⟩
            have HB4 := Lib.hid (Kit.step HBW.out hb4)
            have HR4 := Lib.hid hr4
            clear hg hb4 hr4 HI
            go_wp2_with fail
            go_ret2
            exact ⟨HB4.out, .inr ⟨HIN.out, .inr ⟨HDIS.out, .inr ⟨by omega, _, rfl, ⟨_, _, rfl, HR4.out⟩⟩⟩⟩⟩
end Go.Proofs.YtoefhhkemljjdaaDoor
