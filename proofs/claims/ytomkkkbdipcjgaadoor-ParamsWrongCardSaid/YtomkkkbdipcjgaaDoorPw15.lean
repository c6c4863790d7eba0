/- ParamsWrong, walked. -/
import Derived.Test.YtomkkkbdipcjgaaDoorPz15
import Derived.Test.YtomkkkbdipcjgaaDoorRx15
namespace Go.Proofs.YtomkkkbdipcjgaaDoor
open Go.RowKit
set_option linter.unusedVariables false
set_option linter.unusedSimpArgs false
theorem u64_mod15 (x : Int) (n : Nat) (h0 : 0 < n) (hn : n ≤ 1000) : ∃ j : Nat, j < n ∧ wrap64 (Int.tmod (IntKind.u64.wrap x) (n : Int)) = (j : Int) := by
  have hx : 0 ≤ IntKind.u64.wrap x := by rw [IntKind.wrap_u64]; omega
  obtain ⟨y, hy⟩ : ∃ y : Nat, IntKind.u64.wrap x = (y : Int) := ⟨(IntKind.u64.wrap x).toNat, by omega⟩
  rw [hy, ← Int.ofNat_tmod]
  have hlt := Nat.mod_lt y h0
  exact ⟨y % n, hlt, by unfold wrap64; omega⟩
theorem num_er15 (A : Nat → Addr) (k : Nat) (hk : k ≤ 20) (w : World) (hE : Er.Errs w A) : Calls Tryd.prog 11 #[er15 A k] w fun e w' => e = .returned (.int .i64 (k : Int)) ∧ Below w.heap.size w w' := by
  unfold er15
  by_cases h0 : k = 0
  · rw [if_pos h0]
    subst h0
    exact (Er.num_nil w).mono fun e w' h => ⟨h.1, h.2 ▸ Below.refl _ _⟩
  · rw [if_neg h0]
    have := Er.num_of A (k - 1) (by omega) w hE
    rw [show k - 1 + 1 = k by omega] at this
    exact this
theorem field_er15 {A : Nat → Addr} (hC : PaC A) (k : Nat) (w : World) (hT : Er.EType w) : Calls Tryd.prog 10 #[er15 A k] w fun e w' => e = .returned (.tuple #[txt15 [], .int .i64 0, .bool false]) ∧ Below w.heap.size w w' := by
  unfold er15
  by_cases h0 : k = 0
  · rw [if_pos h0]; exact hC.fnil w hT
  · rw [if_neg h0]; exact hC.fno w _ hT
set_option maxRecDepth 100000 in
set_option maxHeartbeats 1000000 in
theorem pw15_any (A : Nat → Addr) (hC : PaC A) (f : List UInt8) (n m : Int) (hn : in64 n) (w : World) (hE : Er.Errs w A) (hT : Er.EType w) (hP : P10 w) :
    Calls Tryd.prog 6 #[txt15 f, .int .i64 n, .int .i64 m] w fun e w' => e = .returned (.bool true) ∧ Below w.heap.size w w' := by
  have HPT := Lib.hid hP
  clear hP
  have HAL := Lib.hid (al15_any A hC w hE.e15 hT)
  have HE := Lib.hid hE
  have HT := Lib.hid hT
  have HC := Lib.hid hC
  have HN := Lib.hid hn
  unfold txt15
  obtain ⟨S, hS⟩ : ∃ S, (⟨f.toArray⟩ : ByteArray) = S := ⟨_, rfl⟩
  have hsz : S.size = f.length := by rw [← hS]; show f.toArray.size = _; simp
  have HS := Lib.hid hS
  rw [hS]
  obtain ⟨k, hk, hkx⟩ := u64_mod15 m 21 (by omega) (by omega)
  rw [show (((21 : Nat)) : Int) = 21 from rfl] at hkx
  have HK := Lib.hid hk
  have HKX := Lib.hid hkx
  have HSZ := Lib.hid hsz
  obtain ⟨L, hL⟩ : ∃ L, f.length = L := ⟨_, rfl⟩
  have HL := Lib.hid hL
  rw [hL] at hsz
  clear hE hT hC hn hS hk hL hkx
  go_enter Tryd.func6, Tryd.ntmps6
  go_wp2_with fail
  refine HAL.out.mono ?_
  rintro e W1 ⟨rfl, hb1⟩
  have HB1 := Lib.hid hb1
  clear hb1 HAL
  by_cases l : 100 < L
  · have d1 : decide ((L : Int) > 100) = true := decide_eq_true (by omega)
    have d2 : decide (100 < L) = true := decide_eq_true l
    clear l
    go_wp2_with fail
    go_ret
    exact ⟨rfl, HB1.out⟩
  have d1 : decide ((L : Int) > 100) = false := decide_eq_false (by omega)
  have d2 : decide (100 < L) = false := decide_eq_false l
  have H100 : Hid (f.length ≤ 100) := Lib.hid (by rw [HL.out]; omega)
  clear l
  go_upto_region 5 with fail
  -- STOP1
  have HER := Lib.hid (er15_any A k (by have := HK.out; omega) W1 (HE.out.later HB1.out))
  go_upto_region 6 with fail
  rw [HKX.out]
  -- STOP2
  apply wp_region_lit
  (refine wpList_plain rfl (fun K hK => ?_); go_simp; refine hK _ _ ?_; clear hK K)
  (refine wpList_plain rfl (fun K hK => ?_); go_simp; refine hK _ _ ?_; clear hK K)
  (refine wpList_plain rfl (fun K hK => ?_); go_simp; refine hK _ _ ?_; clear hK K)
  (refine wpList_plain rfl (fun K hK => ?_); go_simp)
  refine HER.out.mono ?_
  rintro e W2 ⟨rfl, hb2⟩
  refine hK _ _ ?_
  clear hK K HER
  obtain ⟨EV, hEV⟩ : ∃ EV, er15 A k = EV := ⟨_, rfl⟩
  rw [hEV]
  have hc : EV = .nilIface ∨ ∃ a, EV = .iface 127 (.pointer (some a)) := by
    rw [← hEV]
    unfold er15 sn15
    by_cases h : k = 0
    · rw [if_pos h]; exact .inl rfl
    · rw [if_neg h]; exact .inr ⟨_, rfl⟩
  rcases hc with rfl | ⟨ad, rfl⟩
  · obtain ⟨g, hg⟩ : ∃ g, W2.heap.size = g := ⟨_, rfl⟩
    obtain ⟨W3, hW3⟩ : ∃ W3, W2.alloc (.cells #[.string S, .int .i64 n, (.nilIface)] 59) = W3 := ⟨_, rfl⟩
    have hA3 : WrAt W3 g f n (.nilIface) := by unfold WrAt txt15; rw [HS.out, ← hW3, ← hg]; exact World.alloc_heap_new W2 _
    have hb3 : Below W2.heap.size W2 W3 := by rw [← hW3]; exact new12 _ _
    have HB3 := Lib.hid (Kit.step HB1.out (Kit.step hb2 hb3))
    have hfi := HC.out.fwr W3 g f n (.nilIface) hA3 (HT.out.later HB3.out)
    unfold txt15 at hfi
    rw [HS.out] at hfi
    have HFI := Lib.hid hfi
    have HA3 := Lib.hid hA3
    have HG := Lib.hid hg
    have HEV := Lib.hid hEV
    have HW3 := Lib.hid hW3
    clear hb2 hb3 hA3 hg hEV hW3 hfi
    (refine wpList_plain rfl (fun K hK => ?_); go_simp; refine hK _ _ ?_; clear hK K)
    (refine wpList_plain rfl (fun K hK => ?_); go_simp; refine hK _ _ ?_; clear hK K)
    rw [HW3.out, HG.out]
    (refine wpList_plain rfl (fun K hK => ?_); go_simp; refine hK _ _ ?_; clear hK K)
    refine wpList_nil ?_
    -- STOP3
    go_upto_region 7 with fail
    apply wp_region_lit
    (refine wpList_plain rfl (fun K hK => ?_); go_simp; refine hK _ _ ?_; clear hK K)
    (refine wpList_plain rfl (fun K hK => ?_); go_simp; refine hK _ _ ?_; clear hK K)
    (refine wpList_plain rfl (fun K hK => ?_); go_simp)
    refine HFI.out.mono ?_
    rintro e W4 ⟨rfl, hb4⟩
    refine hK _ _ ?_
    clear hK K HFI
    have HA4 := Lib.hid (HA3.out.later hb4)
    have HB4 := Lib.hid (Kit.step HB3.out hb4)
    clear hb4 HA3
    (refine wpList_plain rfl (fun K hK => ?_); go_simp; refine hK _ _ ?_; clear hK K)
    (refine wpList_plain rfl (fun K hK => ?_); go_simp; refine hK _ _ ?_; clear hK K)
    (refine wpList_plain rfl (fun K hK => ?_); go_simp; refine hK _ _ ?_; clear hK K)
    (refine wpList_plain rfl (fun K hK => ?_); go_simp; refine hK _ _ ?_; clear hK K)
    (refine wpList_plain rfl (fun K hK => ?_); go_simp; refine hK _ _ ?_; clear hK K)
    (refine wpList_plain rfl (fun K hK => ?_); go_simp; refine hK _ _ ?_; clear hK K)
    (refine wpList_plain rfl (fun K hK => ?_); go_simp; refine hK _ _ ?_; clear hK K)
    refine wpList_nil ?_
    have hlen : (Lib.itoa n).length ≤ 21 := Lib.itoa_length_le n HN.out.1 HN.out.2
    obtain ⟨P1, hP1⟩ : ∃ P1 : ByteArray, S ++ ⟨#[32]⟩ = P1 := ⟨_, rfl⟩
    obtain ⟨F, hF⟩ : ∃ F : ByteArray, (⟨(Lib.itoa n).toArray⟩ : ByteArray) = F := ⟨_, rfl⟩
    obtain ⟨P2, hP2⟩ : ∃ P2 : ByteArray, (⟨(f ++ 32 :: Lib.itoa n).toArray⟩ : ByteArray) = P2 := ⟨_, rfl⟩
    have hl1 := H100.out
    have hadd1 : ∀ W, (Op.stringOp .add S ⟨#[32]⟩).run Tryd.prog W = .ok (.string P1) W := fun W => by
      rw [← hP1]
      exact run_string_add_sum W S ⟨#[32]⟩ (by rw [HSZ.out]; show f.length + 1 ≤ _; omega)
    have hadd2 : ∀ W, (Op.stringOp .add P1 F).run Tryd.prog W = .ok (.string P2) W := fun W => by
      have hps : P1 = ⟨(f ++ [32]).toArray⟩ := by
        rw [← hP1, ← HS.out]
        apply ByteArray.ext
        simp
      have h := run_string_add_sum (P := Tryd.prog) W P1 F (by
        rw [hps, ← hF]
        show (f ++ [32]).toArray.size + (Lib.itoa n).toArray.size ≤ _
        simp only [List.size_toArray, List.length_append, List.length_singleton]
        omega)
      rw [h, hps, ← hF, ← hP2]
      congr 2
      apply ByteArray.ext
      simp
    have her := HC.out.error W4 g f n (.nilIface) HA4.out H100.out HN.out (tabIs_later HPT.out HB4.out)
    unfold txt15 at her
    rw [hP2] at her
    have HERR := Lib.hid her
    clear hlen hP1 hP2 hl1 her
    -- STOP4
    go_upto_region 8 with fail
    apply wp_region_lit
    (refine wpList_plain rfl (fun K hK => ?_); go_simp; refine hK _ _ ?_; clear hK K)
    (refine wpList_plain rfl (fun K hK => ?_); go_simp)
    refine HERR.out.mono ?_
    rintro e W5 ⟨rfl, hb5⟩
    refine hK _ _ ?_
    clear hK K HERR
    have HA5 := Lib.hid (HA4.out.later hb5)
    have HB5 := Lib.hid (Kit.step HB4.out hb5)
    have hfg := fig_any n HN.out.1 HN.out.2 W5
    rw [hF] at hfg
    have HFG := Lib.hid hfg
    clear hb5 HA4 hfg
    (refine wpList_plain rfl (fun K hK => ?_); go_simp; refine hK _ _ ?_; clear hK K)
    (refine wpList_plain rfl (fun K hK => ?_); go_simp; refine hK _ _ ?_; clear hK K)
    (refine wpList_plain rfl (fun K hK => ?_); go_simp; refine hK _ _ ?_; clear hK K)
    (refine wpList_plain rfl (fun K hK => ?_); go_simp)
    refine HFG.out.mono ?_
    rintro e W6 ⟨rfl, hb6⟩
    refine hK _ _ ?_
    clear hK K HFG
    have HA6 := Lib.hid (HA5.out.later hb6)
    have HB6 := Lib.hid (Kit.step HB5.out hb6)
    have HUN := Lib.hid (HC.out.unwrap W6 ⟨g, 0, none⟩ (.nilIface) HA6.out.cell rfl)
    have hnu := num_er15 A k (by have := HK.out; omega) W6 (HE.out.later HB6.out)
    rw [HEV.out] at hnu
    have HNU := Lib.hid hnu
    clear hb6 HA5 hnu
    -- STOP5
    (refine wpList_plain rfl (fun K hK => ?_); go_simp; refine hK _ _ ?_; clear hK K)
    (refine wpList_plain rfl (fun K hK => ?_); go_simp; refine hK _ _ ?_; clear hK K)
    (refine wpList_plain rfl (fun K hK => ?_); go_simp; refine hK _ _ ?_; clear hK K)
    (refine BigFrame.wpList_want (by rfl) (fun K hK => ?_); go_simp; refine hK _ _ ?_; clear hK K)
    (refine BigFrame.wpList_want (by rfl) (fun K hK => ?_); go_simp)
    refine HUN.out.mono ?_
    rintro e W ⟨rfl, rfl⟩
    refine hK _ _ ?_
    clear hK K HUN
    rename World => W6
    (refine BigFrame.wpList_want (by rfl) (fun K hK => ?_); go_simp)
    refine HNU.out.mono ?_
    rintro e W7 ⟨rfl, hb7⟩
    refine hK _ _ ?_
    clear hK K HNU
    have HA7 := Lib.hid (HA6.out.later hb7)
    have HB7 := Lib.hid (Kit.step HB6.out hb7)
    clear hb7 HA6
    -- STOP6
    (refine BigFrame.wpList_want (by rfl) (fun K hK => ?_); go_simp; refine hK _ _ ?_; clear hK K)
    (refine BigFrame.wpList_want (by rfl) (fun K hK => ?_); go_simp; refine hK _ _ ?_; clear hK K)
    (refine wpList_plain rfl (fun K hK => ?_); go_simp; refine hK _ _ ?_; clear hK K)
    (refine wpList_plain rfl (fun K hK => ?_); go_simp; refine hK _ _ ?_; clear hK K)
    (refine BigFrame.wpList_want (by rfl) (fun K hK => ?_); go_simp; refine hK _ _ ?_; clear hK K)
    (refine BigFrame.wpList_want (by rfl) (fun K hK => ?_); go_simp; refine hK _ _ ?_; clear hK K)
    (refine BigFrame.wpList_want (by rfl) (fun K hK => ?_); go_simp; refine hK _ _ ?_; clear hK K)
    (refine wpList_plain rfl (fun K hK => ?_); go_simp; refine hK _ _ ?_; clear hK K)
    (refine wpList_plain rfl (fun K hK => ?_); go_simp; refine hK _ _ ?_; clear hK K)
    (refine BigFrame.wpList_want (by rfl) (fun K hK => ?_); go_simp; refine hK _ _ ?_; clear hK K)
    (refine BigFrame.wpList_want (by rfl) (fun K hK => ?_); go_simp; refine hK _ _ ?_; clear hK K)
    (refine BigFrame.wpList_want (by rfl) (fun K hK => ?_); go_simp; refine hK _ _ ?_; clear hK K)
    (refine wpList_plain rfl (fun K hK => ?_); go_simp; refine hK _ _ ?_; clear hK K)
    (refine wpList_plain rfl (fun K hK => ?_); go_simp; refine hK _ _ ?_; clear hK K)
    (refine BigFrame.wpList_want (by rfl) (fun K hK => ?_); go_simp; refine hK _ _ ?_; clear hK K)
    (refine BigFrame.wpList_want (by rfl) (fun K hK => ?_); go_simp; refine hK _ _ ?_; clear hK K)
    (refine wpList_plain rfl (fun K hK => ?_); go_simp; refine hK _ _ ?_; clear hK K)
    refine wpList_nil ?_
    obtain ⟨g8, hg8⟩ : ∃ g8, W7.heap.size = g8 := ⟨_, rfl⟩
    obtain ⟨W8, hW8⟩ : ∃ W8, W7.alloc (.cells #[.string ⟨#[111, 117, 116, 101, 114]⟩, .int .i64 7, wr15 g] 59) = W8 := ⟨_, rfl⟩
    have hA8 : WrAt W8 g8 [111, 117, 116, 101, 114] 7 (wr15 g) := by unfold WrAt; rw [← hW8, ← hg8]; exact World.alloc_heap_new W7 _
    have hb8 : Below W7.heap.size W7 W8 := by rw [← hW8]; exact new12 _ _
    have HB8 := Lib.hid (Kit.step HB7.out hb8)
    have HI8 := Lib.hid (HA7.out.later hb8)
    have hfo := HC.out.fwr W8 g8 _ _ _ hA8 (HT.out.later HB8.out)
    unfold txt15 at hfo
    have HFO := Lib.hid hfo
    have HO8 := Lib.hid hA8
    have HG8 := Lib.hid hg8
    unfold wr15 at hW8
    have HW8 := Lib.hid hW8
    clear hA8 hb8 hg8 hW8 hfo HA7
    -- STOP7
    go_upto_region 10 with fail
    apply wp_region_lit
    (refine wpList_plain rfl (fun K hK => ?_); go_simp; refine hK _ _ ?_; clear hK K)
    (refine wpList_plain rfl (fun K hK => ?_); go_simp; refine hK _ _ ?_; clear hK K)
    (refine wpList_plain rfl (fun K hK => ?_); go_simp; refine hK _ _ ?_; clear hK K)
    (refine wpList_plain rfl (fun K hK => ?_); go_simp; refine hK _ _ ?_; clear hK K)
    rw [HW8.out, HG8.out]
    (refine wpList_plain rfl (fun K hK => ?_); go_simp; refine hK _ _ ?_; clear hK K)
    refine wpList_nil ?_
    go_upto_region 11 with fail
    apply wp_region_lit
    (refine wpList_plain rfl (fun K hK => ?_); go_simp; refine hK _ _ ?_; clear hK K)
    (refine wpList_plain rfl (fun K hK => ?_); go_simp; refine hK _ _ ?_; clear hK K)
    (refine wpList_plain rfl (fun K hK => ?_); go_simp)
    refine HFO.out.mono ?_
    rintro e W9 ⟨rfl, hb9⟩
    refine hK _ _ ?_
    clear hK K HFO
    have HI9 := Lib.hid (HI8.out.later hb9)
    have HO9 := Lib.hid (HO8.out.later hb9)
    have HB9 := Lib.hid (Kit.step HB8.out hb9)
    have her9 := er15_any A k (by have := HK.out; omega) W9 (HE.out.later HB9.out)
    rw [HEV.out] at her9
    have HER9 := Lib.hid her9
    clear hb9 HI8 HO8 her9
    (refine wpList_plain rfl (fun K hK => ?_); go_simp; refine hK _ _ ?_; clear hK K)
    (refine wpList_plain rfl (fun K hK => ?_); go_simp; refine hK _ _ ?_; clear hK K)
    (refine wpList_plain rfl (fun K hK => ?_); go_simp; refine hK _ _ ?_; clear hK K)
    (refine wpList_plain rfl (fun K hK => ?_); go_simp; refine hK _ _ ?_; clear hK K)
    (refine wpList_plain rfl (fun K hK => ?_); go_simp; refine hK _ _ ?_; clear hK K)
    (refine wpList_plain rfl (fun K hK => ?_); go_simp; refine hK _ _ ?_; clear hK K)
    (refine wpList_plain rfl (fun K hK => ?_); go_simp; refine hK _ _ ?_; clear hK K)
    refine wpList_nil ?_
    -- STOP8
    go_upto_region 12 with fail
    apply wp_region_lit
    (refine wpList_plain rfl (fun K hK => ?_); go_simp; refine hK _ _ ?_; clear hK K)
    (refine wpList_plain rfl (fun K hK => ?_); go_simp)
    refine HER9.out.mono ?_
    rintro e W10 ⟨rfl, hb10⟩
    refine hK _ _ ?_
    clear hK K HER9
    have HI10 := Lib.hid (HI9.out.later hb10)
    have HO10 := Lib.hid (HO9.out.later hb10)
    have HB10 := Lib.hid (Kit.step HB9.out hb10)
    have hfe := field_er15 HC.out k W10 (HT.out.later HB10.out)
    rw [HEV.out] at hfe
    have HFE := Lib.hid hfe
    clear hb10 HI9 HO9 hfe
    (refine wpList_plain rfl (fun K hK => ?_); go_simp)
    refine HFE.out.mono ?_
    rintro e W11 ⟨rfl, hb11⟩
    refine hK _ _ ?_
    clear hK K HFE
    have HI11 := Lib.hid (HI10.out.later hb11)
    have HO11 := Lib.hid (HO10.out.later hb11)
    have HB11 := Lib.hid (Kit.step HB10.out hb11)
    clear hb11 HI10 HO10
    (refine wpList_plain rfl (fun K hK => ?_); go_simp; refine hK _ _ ?_; clear hK K)
    (refine wpList_plain rfl (fun K hK => ?_); go_simp; refine hK _ _ ?_; clear hK K)
    (refine wpList_plain rfl (fun K hK => ?_); go_simp; refine hK _ _ ?_; clear hK K)
    (refine wpList_plain rfl (fun K hK => ?_); go_simp; refine hK _ _ ?_; clear hK K)
    (refine wpList_plain rfl (fun K hK => ?_); go_simp; refine hK _ _ ?_; clear hK K)
    (refine wpList_plain rfl (fun K hK => ?_); go_simp; refine hK _ _ ?_; clear hK K)
    (refine wpList_plain rfl (fun K hK => ?_); go_simp; refine hK _ _ ?_; clear hK K)
    refine wpList_nil ?_
    -- STOP9
    by_cases hk0 : k = 0
    · subst hk0
      go_wp2_with fail
      go_ret
      exact ⟨rfl, HB11.out⟩
    have hnw := Er.num_wrong2 HC.out.unwrap A (k - 1) (by have := HK.out; omega) g8 g W11 (HE.out.later HB11.out) HO11.out.cell (by
      have h := HI11.out.cell
      rw [← HEV.out] at h
      unfold er15 sn15 at h
      rw [if_neg hk0] at h
      exact h)
    rw [show k - 1 + 1 = k by omega] at hnw
    have HNW := Lib.hid hnw
    have e1 : ((k : Int) == 0) = false := by rw [beq_eq_false_iff_ne]; omega
    have e2 : (k == 0) = false := by rw [beq_eq_false_iff_ne]; exact hk0
    clear hnw hk0
    go_wp2_with fail
    -- STOP10
    refine HNW.out.mono ?_
    rintro e W12 ⟨rfl, hb12⟩
    have HB12 := Lib.hid (Kit.step HB11.out hb12)
    go_wp2_with fail
    go_ret
    exact ⟨rfl, HB12.out⟩
  · obtain ⟨g, hg⟩ : ∃ g, W2.heap.size = g := ⟨_, rfl⟩
    obtain ⟨W3, hW3⟩ : ∃ W3, W2.alloc (.cells #[.string S, .int .i64 n, (.iface 127 (.pointer (some ad)))] 59) = W3 := ⟨_, rfl⟩
    have hA3 : WrAt W3 g f n (.iface 127 (.pointer (some ad))) := by unfold WrAt txt15; rw [HS.out, ← hW3, ← hg]; exact World.alloc_heap_new W2 _
    have hb3 : Below W2.heap.size W2 W3 := by rw [← hW3]; exact new12 _ _
    have HB3 := Lib.hid (Kit.step HB1.out (Kit.step hb2 hb3))
    have hfi := HC.out.fwr W3 g f n (.iface 127 (.pointer (some ad))) hA3 (HT.out.later HB3.out)
    unfold txt15 at hfi
    rw [HS.out] at hfi
    have HFI := Lib.hid hfi
    have HA3 := Lib.hid hA3
    have HG := Lib.hid hg
    have HEV := Lib.hid hEV
    have HW3 := Lib.hid hW3
    clear hb2 hb3 hA3 hg hEV hW3 hfi
    (refine wpList_plain rfl (fun K hK => ?_); go_simp; refine hK _ _ ?_; clear hK K)
    (refine wpList_plain rfl (fun K hK => ?_); go_simp; refine hK _ _ ?_; clear hK K)
    rw [HW3.out, HG.out]
    (refine wpList_plain rfl (fun K hK => ?_); go_simp; refine hK _ _ ?_; clear hK K)
    refine wpList_nil ?_
    -- STOP3
    go_upto_region 7 with fail
    apply wp_region_lit
    (refine wpList_plain rfl (fun K hK => ?_); go_simp; refine hK _ _ ?_; clear hK K)
    (refine wpList_plain rfl (fun K hK => ?_); go_simp; refine hK _ _ ?_; clear hK K)
    (refine wpList_plain rfl (fun K hK => ?_); go_simp)
    refine HFI.out.mono ?_
    rintro e W4 ⟨rfl, hb4⟩
    refine hK _ _ ?_
    clear hK K HFI
    have HA4 := Lib.hid (HA3.out.later hb4)
    have HB4 := Lib.hid (Kit.step HB3.out hb4)
    clear hb4 HA3
    (refine wpList_plain rfl (fun K hK => ?_); go_simp; refine hK _ _ ?_; clear hK K)
    (refine wpList_plain rfl (fun K hK => ?_); go_simp; refine hK _ _ ?_; clear hK K)
    (refine wpList_plain rfl (fun K hK => ?_); go_simp; refine hK _ _ ?_; clear hK K)
    (refine wpList_plain rfl (fun K hK => ?_); go_simp; refine hK _ _ ?_; clear hK K)
    (refine wpList_plain rfl (fun K hK => ?_); go_simp; refine hK _ _ ?_; clear hK K)
    (refine wpList_plain rfl (fun K hK => ?_); go_simp; refine hK _ _ ?_; clear hK K)
    (refine wpList_plain rfl (fun K hK => ?_); go_simp; refine hK _ _ ?_; clear hK K)
    refine wpList_nil ?_
    have hlen : (Lib.itoa n).length ≤ 21 := Lib.itoa_length_le n HN.out.1 HN.out.2
    obtain ⟨P1, hP1⟩ : ∃ P1 : ByteArray, S ++ ⟨#[32]⟩ = P1 := ⟨_, rfl⟩
    obtain ⟨F, hF⟩ : ∃ F : ByteArray, (⟨(Lib.itoa n).toArray⟩ : ByteArray) = F := ⟨_, rfl⟩
    obtain ⟨P2, hP2⟩ : ∃ P2 : ByteArray, (⟨(f ++ 32 :: Lib.itoa n).toArray⟩ : ByteArray) = P2 := ⟨_, rfl⟩
    have hl1 := H100.out
    have hadd1 : ∀ W, (Op.stringOp .add S ⟨#[32]⟩).run Tryd.prog W = .ok (.string P1) W := fun W => by
      rw [← hP1]
      exact run_string_add_sum W S ⟨#[32]⟩ (by rw [HSZ.out]; show f.length + 1 ≤ _; omega)
    have hadd2 : ∀ W, (Op.stringOp .add P1 F).run Tryd.prog W = .ok (.string P2) W := fun W => by
      have hps : P1 = ⟨(f ++ [32]).toArray⟩ := by
        rw [← hP1, ← HS.out]
        apply ByteArray.ext
        simp
      have h := run_string_add_sum (P := Tryd.prog) W P1 F (by
        rw [hps, ← hF]
        show (f ++ [32]).toArray.size + (Lib.itoa n).toArray.size ≤ _
        simp only [List.size_toArray, List.length_append, List.length_singleton]
        omega)
      rw [h, hps, ← hF, ← hP2]
      congr 2
      apply ByteArray.ext
      simp
    have her := HC.out.error W4 g f n (.iface 127 (.pointer (some ad))) HA4.out H100.out HN.out (tabIs_later HPT.out HB4.out)
    unfold txt15 at her
    rw [hP2] at her
    have HERR := Lib.hid her
    clear hlen hP1 hP2 hl1 her
    -- STOP4
    go_upto_region 8 with fail
    apply wp_region_lit
    (refine wpList_plain rfl (fun K hK => ?_); go_simp; refine hK _ _ ?_; clear hK K)
    (refine wpList_plain rfl (fun K hK => ?_); go_simp)
    refine HERR.out.mono ?_
    rintro e W5 ⟨rfl, hb5⟩
    refine hK _ _ ?_
    clear hK K HERR
    have HA5 := Lib.hid (HA4.out.later hb5)
    have HB5 := Lib.hid (Kit.step HB4.out hb5)
    have hfg := fig_any n HN.out.1 HN.out.2 W5
    rw [hF] at hfg
    have HFG := Lib.hid hfg
    clear hb5 HA4 hfg
    (refine wpList_plain rfl (fun K hK => ?_); go_simp; refine hK _ _ ?_; clear hK K)
    (refine wpList_plain rfl (fun K hK => ?_); go_simp; refine hK _ _ ?_; clear hK K)
    (refine wpList_plain rfl (fun K hK => ?_); go_simp; refine hK _ _ ?_; clear hK K)
    (refine wpList_plain rfl (fun K hK => ?_); go_simp)
    refine HFG.out.mono ?_
    rintro e W6 ⟨rfl, hb6⟩
    refine hK _ _ ?_
    clear hK K HFG
    have HA6 := Lib.hid (HA5.out.later hb6)
    have HB6 := Lib.hid (Kit.step HB5.out hb6)
    have HUN := Lib.hid (HC.out.unwrap W6 ⟨g, 0, none⟩ (.iface 127 (.pointer (some ad))) HA6.out.cell rfl)
    have hnu := num_er15 A k (by have := HK.out; omega) W6 (HE.out.later HB6.out)
    rw [HEV.out] at hnu
    have HNU := Lib.hid hnu
    clear hb6 HA5 hnu
    -- STOP5
    (refine wpList_plain rfl (fun K hK => ?_); go_simp; refine hK _ _ ?_; clear hK K)
    (refine wpList_plain rfl (fun K hK => ?_); go_simp; refine hK _ _ ?_; clear hK K)
    (refine wpList_plain rfl (fun K hK => ?_); go_simp; refine hK _ _ ?_; clear hK K)
    (refine BigFrame.wpList_want (by rfl) (fun K hK => ?_); go_simp; refine hK _ _ ?_; clear hK K)
    (refine BigFrame.wpList_want (by rfl) (fun K hK => ?_); go_simp)
    refine HUN.out.mono ?_
    rintro e W ⟨rfl, rfl⟩
    refine hK _ _ ?_
    clear hK K HUN
    rename World => W6
    (refine BigFrame.wpList_want (by rfl) (fun K hK => ?_); go_simp)
    refine HNU.out.mono ?_
    rintro e W7 ⟨rfl, hb7⟩
    refine hK _ _ ?_
    clear hK K HNU
    have HA7 := Lib.hid (HA6.out.later hb7)
    have HB7 := Lib.hid (Kit.step HB6.out hb7)
    clear hb7 HA6
    -- STOP6
    (refine BigFrame.wpList_want (by rfl) (fun K hK => ?_); go_simp; refine hK _ _ ?_; clear hK K)
    (refine BigFrame.wpList_want (by rfl) (fun K hK => ?_); go_simp; refine hK _ _ ?_; clear hK K)
    (refine wpList_plain rfl (fun K hK => ?_); go_simp; refine hK _ _ ?_; clear hK K)
    (refine wpList_plain rfl (fun K hK => ?_); go_simp; refine hK _ _ ?_; clear hK K)
    (refine BigFrame.wpList_want (by rfl) (fun K hK => ?_); go_simp; refine hK _ _ ?_; clear hK K)
    (refine BigFrame.wpList_want (by rfl) (fun K hK => ?_); go_simp; refine hK _ _ ?_; clear hK K)
    (refine BigFrame.wpList_want (by rfl) (fun K hK => ?_); go_simp; refine hK _ _ ?_; clear hK K)
    (refine wpList_plain rfl (fun K hK => ?_); go_simp; refine hK _ _ ?_; clear hK K)
    (refine wpList_plain rfl (fun K hK => ?_); go_simp; refine hK _ _ ?_; clear hK K)
    (refine BigFrame.wpList_want (by rfl) (fun K hK => ?_); go_simp; refine hK _ _ ?_; clear hK K)
    (refine BigFrame.wpList_want (by rfl) (fun K hK => ?_); go_simp; refine hK _ _ ?_; clear hK K)
    (refine BigFrame.wpList_want (by rfl) (fun K hK => ?_); go_simp; refine hK _ _ ?_; clear hK K)
    (refine wpList_plain rfl (fun K hK => ?_); go_simp; refine hK _ _ ?_; clear hK K)
    (refine wpList_plain rfl (fun K hK => ?_); go_simp; refine hK _ _ ?_; clear hK K)
    (refine BigFrame.wpList_want (by rfl) (fun K hK => ?_); go_simp; refine hK _ _ ?_; clear hK K)
    (refine BigFrame.wpList_want (by rfl) (fun K hK => ?_); go_simp; refine hK _ _ ?_; clear hK K)
    (refine wpList_plain rfl (fun K hK => ?_); go_simp; refine hK _ _ ?_; clear hK K)
    refine wpList_nil ?_
    obtain ⟨g8, hg8⟩ : ∃ g8, W7.heap.size = g8 := ⟨_, rfl⟩
    obtain ⟨W8, hW8⟩ : ∃ W8, W7.alloc (.cells #[.string ⟨#[111, 117, 116, 101, 114]⟩, .int .i64 7, wr15 g] 59) = W8 := ⟨_, rfl⟩
    have hA8 : WrAt W8 g8 [111, 117, 116, 101, 114] 7 (wr15 g) := by unfold WrAt; rw [← hW8, ← hg8]; exact World.alloc_heap_new W7 _
    have hb8 : Below W7.heap.size W7 W8 := by rw [← hW8]; exact new12 _ _
    have HB8 := Lib.hid (Kit.step HB7.out hb8)
    have HI8 := Lib.hid (HA7.out.later hb8)
    have hfo := HC.out.fwr W8 g8 _ _ _ hA8 (HT.out.later HB8.out)
    unfold txt15 at hfo
    have HFO := Lib.hid hfo
    have HO8 := Lib.hid hA8
    have HG8 := Lib.hid hg8
    unfold wr15 at hW8
    have HW8 := Lib.hid hW8
    clear hA8 hb8 hg8 hW8 hfo HA7
    -- STOP7
    go_upto_region 10 with fail
    apply wp_region_lit
    (refine wpList_plain rfl (fun K hK => ?_); go_simp; refine hK _ _ ?_; clear hK K)
    (refine wpList_plain rfl (fun K hK => ?_); go_simp; refine hK _ _ ?_; clear hK K)
    (refine wpList_plain rfl (fun K hK => ?_); go_simp; refine hK _ _ ?_; clear hK K)
    (refine wpList_plain rfl (fun K hK => ?_); go_simp; refine hK _ _ ?_; clear hK K)
    rw [HW8.out, HG8.out]
    (refine wpList_plain rfl (fun K hK => ?_); go_simp; refine hK _ _ ?_; clear hK K)
    refine wpList_nil ?_
    go_upto_region 11 with fail
    apply wp_region_lit
    (refine wpList_plain rfl (fun K hK => ?_); go_simp; refine hK _ _ ?_; clear hK K)
    (refine wpList_plain rfl (fun K hK => ?_); go_simp; refine hK _ _ ?_; clear hK K)
    (refine wpList_plain rfl (fun K hK => ?_); go_simp)
    refine HFO.out.mono ?_
    rintro e W9 ⟨rfl, hb9⟩
    refine hK _ _ ?_
    clear hK K HFO
    have HI9 := Lib.hid (HI8.out.later hb9)
    have HO9 := Lib.hid (HO8.out.later hb9)
    have HB9 := Lib.hid (Kit.step HB8.out hb9)
    have her9 := er15_any A k (by have := HK.out; omega) W9 (HE.out.later HB9.out)
    rw [HEV.out] at her9
    have HER9 := Lib.hid her9
    clear hb9 HI8 HO8 her9
    (refine wpList_plain rfl (fun K hK => ?_); go_simp; refine hK _ _ ?_; clear hK K)
    (refine wpList_plain rfl (fun K hK => ?_); go_simp; refine hK _ _ ?_; clear hK K)
    (refine wpList_plain rfl (fun K hK => ?_); go_simp; refine hK _ _ ?_; clear hK K)
    (refine wpList_plain rfl (fun K hK => ?_); go_simp; refine hK _ _ ?_; clear hK K)
    (refine wpList_plain rfl (fun K hK => ?_); go_simp; refine hK _ _ ?_; clear hK K)
    (refine wpList_plain rfl (fun K hK => ?_); go_simp; refine hK _ _ ?_; clear hK K)
    (refine wpList_plain rfl (fun K hK => ?_); go_simp; refine hK _ _ ?_; clear hK K)
    refine wpList_nil ?_
    -- STOP8
    go_upto_region 12 with fail
    apply wp_region_lit
    (refine wpList_plain rfl (fun K hK => ?_); go_simp; refine hK _ _ ?_; clear hK K)
    (refine wpList_plain rfl (fun K hK => ?_); go_simp)
    refine HER9.out.mono ?_
    rintro e W10 ⟨rfl, hb10⟩
    refine hK _ _ ?_
    clear hK K HER9
    have HI10 := Lib.hid (HI9.out.later hb10)
    have HO10 := Lib.hid (HO9.out.later hb10)
    have HB10 := Lib.hid (Kit.step HB9.out hb10)
    have hfe := field_er15 HC.out k W10 (HT.out.later HB10.out)
    rw [HEV.out] at hfe
    have HFE := Lib.hid hfe
    clear hb10 HI9 HO9 hfe
    (refine wpList_plain rfl (fun K hK => ?_); go_simp)
    refine HFE.out.mono ?_
    rintro e W11 ⟨rfl, hb11⟩
    refine hK _ _ ?_
    clear hK K HFE
    have HI11 := Lib.hid (HI10.out.later hb11)
    have HO11 := Lib.hid (HO10.out.later hb11)
    have HB11 := Lib.hid (Kit.step HB10.out hb11)
    clear hb11 HI10 HO10
    (refine wpList_plain rfl (fun K hK => ?_); go_simp; refine hK _ _ ?_; clear hK K)
    (refine wpList_plain rfl (fun K hK => ?_); go_simp; refine hK _ _ ?_; clear hK K)
    (refine wpList_plain rfl (fun K hK => ?_); go_simp; refine hK _ _ ?_; clear hK K)
    (refine wpList_plain rfl (fun K hK => ?_); go_simp; refine hK _ _ ?_; clear hK K)
    (refine wpList_plain rfl (fun K hK => ?_); go_simp; refine hK _ _ ?_; clear hK K)
    (refine wpList_plain rfl (fun K hK => ?_); go_simp; refine hK _ _ ?_; clear hK K)
    (refine wpList_plain rfl (fun K hK => ?_); go_simp; refine hK _ _ ?_; clear hK K)
    refine wpList_nil ?_
    -- STOP9
    by_cases hk0 : k = 0
    · subst hk0
      go_wp2_with fail
      go_ret
      exact ⟨rfl, HB11.out⟩
    have hnw := Er.num_wrong2 HC.out.unwrap A (k - 1) (by have := HK.out; omega) g8 g W11 (HE.out.later HB11.out) HO11.out.cell (by
      have h := HI11.out.cell
      rw [← HEV.out] at h
      unfold er15 sn15 at h
      rw [if_neg hk0] at h
      exact h)
    rw [show k - 1 + 1 = k by omega] at hnw
    have HNW := Lib.hid hnw
    have e1 : ((k : Int) == 0) = false := by rw [beq_eq_false_iff_ne]; omega
    have e2 : (k == 0) = false := by rw [beq_eq_false_iff_ne]; exact hk0
    clear hnw hk0
    go_wp2_with fail
    -- STOP10
    refine HNW.out.mono ?_
    rintro e W12 ⟨rfl, hb12⟩
    have HB12 := Lib.hid (Kit.step HB11.out hb12)
    go_wp2_with fail
    go_ret
    exact ⟨rfl, HB12.out⟩
end Go.Proofs.YtomkkkbdipcjgaaDoor
