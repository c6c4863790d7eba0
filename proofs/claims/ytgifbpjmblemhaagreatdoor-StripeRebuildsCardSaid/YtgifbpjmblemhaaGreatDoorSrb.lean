/- The walk of StripeRebuilds. -/
import Derived.Test.YtgifbpjmblemhaaGreatDoorRrb
import Derived.Test.YtgifbpjmblemhaaGreatDoorSsh
namespace Go.Proofs.YtgifbpjmblemhaaGreatDoor
open Go.RowKit
set_option linter.unusedVariables false
set_option linter.unusedSimpArgs false
set_option maxRecDepth 100000 in
theorem rebuild_form (n N c : Nat) (o : Option Addr) (w : World) (u : TypeId) (v : Value) (hn : n ≤ 2000) (hN : N ≠ totN (nbk n)) (hN2 : N ≤ 9223372036854775807) (hE : w.cell? ⟨0, 0, none⟩ = some (.iface u v)) :
    Calls Tryz.prog 5 #[.slice o N c, .int .i64 (n : Int)] w fun e w' => e = rd_e u v ∧ Below w.heap.size w w' := by
  obtain ⟨w1, hw1⟩ : ∃ w1, w.alloc (.cells #[.slice none 0 0, .slice none 0 0, .slice none 0 0] 27) = w1 := ⟨_, rfl⟩
  have hb1 : Below w.heap.size w w1 := by rw [← hw1]; exact below_new _ _
  have hg1 : w1.heap[w.heap.size]? = some (.cells #[.slice none 0 0, .slice none 0 0, .slice none 0 0] 27 (0, 0)) := by rw [← hw1]; exact World.alloc_heap_new _ _
  have hnb := nbk_bd n hn
  have hll := shp_len n
  have hss := shp_sum n
  have hbd := totN_bd _ hnb
  have htt : sumN (shp n) + 32 * (shp n).length = totN (nbk n) := by rw [shp_sum]; rfl
  have hs := shape_any n w1 hn
  obtain ⟨l, hlq⟩ : ∃ l, shp n = l := ⟨_, rfl⟩
  obtain ⟨T, hT⟩ : ∃ T, totN (nbk n) = T := ⟨_, rfl⟩
  rw [hlq] at hll hss hs htt
  rw [hT] at htt hN hbd
  have hne : ((N : Int) == (T : Int)) = false := beq_false_of_ne (by omega)
  have hnd : decide ((N : Int) = (T : Int)) = false := decide_eq_false (by omega)
  have hnn : ((N : Int) != (T : Int)) = true := by rw [bne_iff_ne]; omega
  have hni : ¬ (N : Int) = (T : Int) := by omega
  have HS := Lib.hid hs
  have HSS := Lib.hid hss
  have HT := Lib.hid htt
  have HG1 := Lib.hid hg1
  have HB1 := Lib.hid hb1
  have HW1 := Lib.hid hw1
  have HE := Lib.hid hE
  clear hE hb1 hw1 hg1 hs htt hlq hT hss hN
  go_enter Tryz.func5, Tryz.ntmps5
  go_wp2_with (rw [HW1.out])
  refine HS.out.mono ?_; rintro e w2 ⟨x, rfl, ⟨o1, c1, rfl, hr⟩, hb⟩
  have HB2 := Lib.hid (Kit.step HB1.out hb)
  have hg2 := rd_keeps HG1.out hb
  have HG2 := Lib.hid hg2
  have htt := total_any l o1 c1 w2 hr (by omega) (by rw [HSS.out]; omega)
  rw [HT.out] at htt
  have HTT := Lib.hid htt
  rw [natI_length]
  clear hb hr htt HS
  go_wp2_with fail
  refine HTT.out.mono ?_; rintro e w3 ⟨rfl, rfl⟩
  have hce := cell_laterB HB2.out HE.out
  have h16 : 0 < w.heap.size := cell_in HE.out
  have h16a : ¬ (w.heap.size = 0) := by omega
  have h16b : ¬ (0 = w.heap.size) := by omega
  have hcc := rd_cells hg2
  clear HTT
  go_wp2_with fail
  go_region
  all_goals go_wp2_with fail
  all_goals refine bodyPost_ret (results_cell_row2 rfl _ _ w.heap.size 27 #[.slice none 0 0, .slice none 0 0, .slice none 0 0] (0, 0) _ rfl (rd_set (w := World.drew w3) HG2.out _ _ _) Tryz.underlying27 rfl rd_size) rfl ?_
  all_goals exact ⟨rfl, below_fx HB2.out.drew (Nat.le_refl _) _ _ _⟩
def SrAt (bs : List (List UInt8)) (w : World) (iv : Value) (wr : World) : Prop := ∃ k : Nat, k ≤ bs.length ∧ iv = .int .i64 k ∧ (∀ i, i < k → (bi bs i).length ≤ 40) ∧ wr = w
def ScAt (bs : List (List UInt8)) (w : World) (iv : Value) (wr : World) : Prop := ∃ k : Nat, k ≤ bs.length ∧ iv = .int .i64 k ∧ wr = w
theorem srb_long (N c : Nat) (n j : Int) (o : Option Addr) (w : World) (h : 330 < N) (hN : N ≤ 9223372036854775807) :
    Calls Tryz.prog 3 #[.slice o N c, .int .i64 n, .int .i64 j] w fun e w' => e = .returned (.bool true) ∧ Below w.heap.size w w' := by
  have hd1 : decide ((330 : Int) < (N : Int)) = true := decide_eq_true (by omega)
  clear h
  go_enter Tryz.func3, Tryz.ntmps3
  go_wp2_with fail
  refine (alive6_any _).mono ?_; rintro e w1 ⟨rfl, hb⟩
  have HB := Lib.hid hb
  clear hb
  go_wp2_with fail
  go_ret
  exact ⟨rfl, HB.out⟩
set_option maxRecDepth 100000 in
set_option maxHeartbeats 4000000 in
theorem srb_of (bs : List (List UInt8)) (N c : Nat) (n j q : Int) (E : Value) (F : List UInt8) (zE zC : List Int) (o : Option Addr) (w : World) (A : Nat → Addr) (hE : Er.Errs w A) (hP : RbIs w o bs c) (hN : bs.length = N) (hl : N ≤ 330) (hj : -9223372036854775808 ≤ j ∧ j ≤ 9223372036854775807)
    (hzE : zE.length ≤ 1000 ∧ ∀ k, k < zE.length → -9223372036854775808 ≤ ci zE k ∧ ci zE k ≤ 9223372036854775807) (hzC : zC.length ≤ 1000 ∧ ∀ k, k < zC.length → -9223372036854775808 ≤ ci zC k ∧ ci zC k ≤ 9223372036854775807)
    (hnu : ∀ v, Er.Errs v A → Calls Tryz.prog 7 #[E] v fun e w' => e = .returned (.int .i64 q) ∧ Below v.heap.size v w')
    (hco : ∀ v, RbIs v o bs c → Er.Errs v A → Calls Tryz.prog 5 #[.slice o N c, .int .i64 n] v fun e w' => ∃ x0 x1 x2, e = .returned (.tuple #[.agg #[x0, x1, x2], E]) ∧ RowV F x0 w' ∧ IntsV zE x1 w' ∧ IntsV zC x2 w' ∧ Below v.heap.size v w')
    (hrb : ∀ v, RbIs v o bs c → Calls Tryz.prog 6 #[.slice o N c, .int .i64 n] v fun e w' => ∃ x0 x1 x2, e = .returned (.tuple #[x0, x1, x2, .int .i64 q]) ∧ RowV F x0 w' ∧ IntsV zE x1 w' ∧ IntsV zC x2 w' ∧ Below v.heap.size v w') :
    Calls Tryz.prog 3 #[.slice o N c, .int .i64 n, .int .i64 j] w fun e w' => e = .returned (.bool true) ∧ Below w.heap.size w w' := by
  have hd1 : decide ((330 : Int) < (N : Int)) = false := decide_eq_false (by omega)
  have h1 := hP.le.1
  have h2 := hP.le.2
  rw [hN] at h1
  unfold maxLen at h2
  have HP := Lib.hid hP
  have HN := Lib.hid hN
  have HE := Lib.hid hE
  have HZE := Lib.hid hzE
  have HZC := Lib.hid hzC
  have HNU := Lib.hid hnu
  have HCO := Lib.hid hco
  have HRB := Lib.hid hrb
  have HJ := Lib.hid hj
  clear hP hN hE hzE hzC hnu hco hrb
  go_enter Tryz.func3, Tryz.ntmps3
  go_wp2_with fail
  refine (alive6_any _).mono ?_; rintro e w1 ⟨rfl, hb⟩
  have HB1 := Lib.hid hb
  have HP1 := Lib.hid (HP.out.later hb)
  clear hb
  go_wp2_with fail
  go_loopw [27] (fun iv wr => ScAt bs w1 iv wr) (fun iv _ => N - (intOf iv).toNat)
  case atStart => exact ⟨0, Nat.zero_le _, rfl, rfl⟩
  case round =>
    obtain ⟨k, hk, rfl, rfl⟩ := hrel
    rw [HN.out] at hk
    by_cases hlt : k < N
    · have hk0 : (0 : Int) ≤ (k : Int) := by omega
      have hk1 : (k : Int) < (N : Int) := by omega
      obtain ⟨b1, off1, p, q1, rfl, _, hc1, hrow⟩ := HP1.out.cell k (by have := HN.out; omega)
      obtain ⟨L, hL⟩ : ∃ L, (bi bs k).length = L := ⟨_, rfl⟩
      have hq1 := hrow.le
      have hq2 := hrow.cap
      simp at hq1
      rw [hL] at hc1 hq1
      unfold maxLen at hq2
      by_cases h40 : 40 < L
      · have hd2 : decide ((40 : Int) < (L : Int)) = true := decide_eq_true (by omega)
        clear hrow hL h40
        go_wp2_with fail
        go_ret
        exact ⟨rfl, HB1.out⟩
      · have hd2 : decide ((40 : Int) < (L : Int)) = false := decide_eq_false (by omega)
        clear hrow hL h40
        go_wp2_with fail
        go_roundw
        case rel => exact ⟨k + 1, by rw [HN.out]; omega, by go_num, rfl⟩
        case measure => simp [intOf]; omega
    · obtain rfl : k = N := by omega
      go_wp2_with fail
      refine (HCO.out _ HP1.out (HE.out.later HB1.out)).mono ?_; rintro e w2 ⟨x0, x1, x2, rfl, ⟨o0, c0, rfl, hx0⟩, ⟨o1, c1, rfl, hx1⟩, ⟨o2, c2, rfl, hx2⟩, hb⟩
      have hle0 := hx0.le
      have hcp0 := hx0.cap
      simp only [bytesV_length] at hle0
      unfold maxLen at hcp0
      obtain ⟨w3, hw3⟩ : ∃ w3, w2.alloc (.cells #[.slice o0 F.length c0, .slice o1 zE.length c1, .slice o2 zC.length c2] 27) = w3 := ⟨_, rfl⟩
      have hb3 : Below w2.heap.size w2 w3 := by rw [← hw3]; exact below_new _ _
      have hg3 : w3.heap[w2.heap.size]? = some (.cells #[.slice o0 F.length c0, .slice o1 zE.length c1, .slice o2 zC.length c2] 27 (0, 0)) := by rw [← hw3]; exact World.alloc_heap_new _ _
      have HB3 := Lib.hid (Kit.step (Kit.step HB1.out hb) hb3)
      have HG3 := Lib.hid hg3
      have HX0 := Lib.hid (hx0.later hb3)
      have HX1 := Lib.hid (hx1.later hb3)
      have HX2 := Lib.hid (hx2.later hb3)
      have HW3 := Lib.hid hw3
      obtain ⟨S, hS⟩ : ∃ S, w2.heap.size = S := ⟨_, rfl⟩
      rw [hS] at HG3
      have HSQ := Lib.hid hS
      clear hx0 hx1 hx2 hb hb3 hg3 hw3 hS HCO
      go_wp2_with (rw [HW3.out])
      rw [HSQ.out]
      refine (HRB.out w3 (HP.out.later HB3.out)).mono ?_; rintro e w4 ⟨y0, y1, y2, rfl, ⟨p0, d0, rfl, hy0⟩, ⟨p1, d1, rfl, hy1⟩, ⟨p2, d2, rfl, hy2⟩, hb⟩
      have HB4 := Lib.hid (Kit.step HB3.out hb)
      have HG4 := Lib.hid (rd_keeps HG3.out hb)
      have HX0' := Lib.hid (HX0.out.later hb)
      have HX1' := Lib.hid (HX1.out.later hb)
      have HX2' := Lib.hid (HX2.out.later hb)
      have HY0 := Lib.hid hy0
      have HY1 := Lib.hid hy1
      have HY2 := Lib.hid hy2
      have HE4 := Lib.hid (HE.out.later HB4.out)
      clear hb hy0 hy1 hy2 HG3 HX0 HX1 HX2 HRB
      go_wp2_with fail
      refine (HNU.out w4 HE4.out).mono ?_; rintro e w5 ⟨rfl, hb⟩
      have hcc := rd_cells (rd_keeps HG4.out hb)
      have k1 := conv_rv (⟨o0, c0, rfl, HX0'.out.later hb⟩ : RowV F (.slice o0 F.length c0) w5)
      have k2 := conv_rv (⟨p0, d0, rfl, HY0.out.later hb⟩ : RowV F (.slice p0 F.length d0) w5)
      have HB5 := Lib.hid (Kit.step HB4.out hb)
      have HG5 := Lib.hid (rd_keeps HG4.out hb)
      have HS1 := Lib.hid (same_ints zE o1 p1 c1 d1 w5 (HX1'.out.later hb) (HY1.out.later hb) HZE.out.1 HZE.out.2)
      have HX2 := Lib.hid (HX2'.out.later hb)
      have HY2' := Lib.hid (HY2.out.later hb)
      clear hb HG4 HNU HE4 HX0' HX1' HX2' HY0 HY1 HY2
      go_wp2_with fail
      refine HS1.out.mono ?_; rintro e w6 ⟨rfl, hdn⟩
      have hb := hdn.below
      have hcc := rd_cells (rd_keeps HG5.out hb)
      have HB6 := Lib.hid (Kit.step HB5.out hb)
      have HS2 := Lib.hid (same_ints zC o2 p2 c2 d2 w6 (HX2.out.later hb) (HY2'.out.later hb) HZC.out.1 HZC.out.2)
      clear hb hdn HG5 HS1 HX2 HY2' k1 k2
      go_wp2_with fail
      refine HS2.out.mono ?_; rintro e w7 ⟨rfl, hdn⟩
      have hb := hdn.below
      have HB7 := Lib.hid (Kit.step HB6.out hb)
      have HCL := Lib.hid (column_any bs o k c j w7 (HP.out.later HB7.out) HN.out (by omega) HJ.out)
      have hcl : (colB bs (j % 8).toNat).length = k := by rw [colB_length, HN.out]
      clear hb hdn HS2 hcc
      go_wp2_with fail
      refine HCL.out.mono ?_; rintro e w8 ⟨g, cap, rfl, hg, hbu, hb⟩
      have hcap := hbu.le
      rw [hcl] at hcap ⊢
      unfold maxLen at hcap
      have hcap1 := hcap.1
      have hcap2 := hcap.2
      have HBU := Lib.hid hbu
      have HB8 := Lib.hid (Kit.step HB7.out hb)
      have HP8 := Lib.hid (HP.out.later HB8.out)
      have HCN := Lib.hid hcl
      obtain ⟨jj, hjj⟩ : ∃ jj : Nat, (j % 8).toNat = jj := ⟨_, rfl⟩
      rw [hjj] at HBU HCN
      have hjl := HJ.out.1
      have hjh := HJ.out.2
      have hj8 : jj < 8 := by omega
      have hjI0 : (0 : Int) ≤ (jj : Int) := by omega
      have hjI : (jj : Int) < 8 := by omega
      have htm : j < 0 → j.tmod 8 = -((-j) % 8) := fun hn => by
        have h := Int.neg_tmod (-j) 8
        rw [Int.neg_neg] at h
        rw [h, Int.tmod_eq_emod_of_nonneg (by omega)]
      clear hbu hb hcl HCL hcap hg
      have h3 : (0 ≤ j ∧ j % 8 = (jj : Int)) ∨ (j < 0 ∧ j.tmod 8 = (jj : Int)) ∨ (∃ r : Int, j < 0 ∧ j.tmod 8 = r ∧ r < 0 ∧ -8 ≤ r ∧ r + 8 = (jj : Int)) := by
        by_cases h0 : 0 ≤ j
        · exact .inl ⟨h0, by omega⟩
        · have := htm (by omega)
          by_cases h1 : j % 8 = 0
          · exact .inr (.inl ⟨by omega, by omega⟩)
          · exact .inr (.inr ⟨_, by omega, rfl, by omega, by omega, by omega⟩)
      clear htm
      rcases h3 with ⟨h0, h3⟩ | ⟨h0, h3⟩ | ⟨r, h0, h3, h4, h5, h6⟩
      case' inl =>
        have hd : decide ((jj : Int) < 0) = false := decide_eq_false (by omega)
        clear hjj
        go_wp2_with fail
      case' inr.inl =>
        have hd : decide ((jj : Int) < 0) = false := decide_eq_false (by omega)
        clear hjj
        go_wp2_with fail
      case' inr.inr =>
        have hd : decide (r < 0) = true := decide_eq_true h4
        clear hjj
        go_wp2_with fail
      all_goals
        go_loopw [91] (fun iv wr => ScAt bs w8 iv wr) (fun iv _ => k - (intOf iv).toNat)
        case atStart => exact ⟨0, Nat.zero_le _, rfl, rfl⟩
        case round =>
          obtain ⟨i, hi, rfl, rfl⟩ := hrel
          rw [HN.out] at hi
          by_cases hil : i < k
          · have hi0 : (0 : Int) ≤ (i : Int) := by omega
            have hi1 : (i : Int) < (k : Int) := by omega
            obtain ⟨b1, off1, p, q1, rfl, _, hc1, hrow⟩ := HP8.out.cell i (by have := HN.out; omega)
            have hcc := HBU.out.cell i (by rw [HCN.out]; exact hil)
            rw [co_colB _ _ _ (by rw [HN.out]; exact hil)] at hcc
            unfold colV at hcc
            by_cases h8 : (bi bs i).length = 8
            · rw [if_pos h8] at hcc
              rw [h8] at hc1
              obtain ⟨b2, off2, rfl, _, hc2⟩ := hrow.cells (by simp; omega)
              have hc3 : wr.cell? ⟨b2, off2 + jj, none⟩ = some (.int .u8 ((co (bi bs i) jj).toNat : Int)) := hc2 jj _ (bytesV_get _ jj (by omega))
              have hq2 := hrow.cap
              have hq1 := hrow.le
              simp at hq1
              rw [h8] at hq1
              unfold maxLen at hq2
              generalize co (bi bs i) jj = x at *
              have hxl := UInt8.toNat_lt x
              have hnt : ((x.toNat : Int) != (x.toNat : Int)) = false := by simp
              clear hrow hc2 h8
              go_wp2_with fail
              go_roundw
              case rel => exact ⟨i + 1, by rw [HN.out]; omega, by go_num, rfl⟩
              case measure => simp [intOf]; omega
            · rw [if_neg h8] at hcc
              obtain ⟨L, hL⟩ : ∃ L, (bi bs i).length = L := ⟨_, rfl⟩
              rw [hL] at hc1 h8
              have hq1 := hrow.le
              have hq2 := hrow.cap
              simp at hq1
              rw [hL] at hq1
              unfold maxLen at hq2
              have hnb' : ((L : Int) == 8) = false := beq_false_of_ne (by omega)
              have hnd : decide ((L : Int) = 8) = false := decide_eq_false (by omega)
              have hni : ¬ (L : Int) = 8 := by omega
              clear hrow hL h8
              go_wp2_with fail
              go_roundw
              case rel => exact ⟨i + 1, by rw [HN.out]; omega, by go_num, rfl⟩
              case measure => simp [intOf]; omega
          · obtain rfl : i = k := by omega
            go_wp2_with fail
            go_ret
            exact ⟨rfl, HB8.out⟩
theorem szG_sum (l : List Nat) (g : Nat) : szG l g ≤ sumN l := by
  by_cases h : g < l.length
  · have h1 := sumN_take l g h
    have h2 := sumN_app (l.take (g + 1)) (l.drop (g + 1))
    rw [List.take_append_drop] at h2
    omega
  · unfold szG
    rw [List.getD_eq_getElem?_getD, List.getElem?_eq_none (by omega)]
    simp
theorem erG_rng (bs : List (List UInt8)) (l : List Nat) (g : Nat) : ∀ x ∈ erG bs l g, ∃ m : Nat, x = (m : Int) ∧ m ≤ sumN l + 32 := by
  induction g with
  | zero => intro x hx; simp [erG] at hx
  | succ g ih =>
    intro x hx
    unfold erG at hx
    rcases List.mem_append.1 hx with h | h
    · exact ih x h
    · rw [List.mem_singleton] at h
      refine ⟨_, h, ?_⟩
      have h1 := gnL_length (grpG bs l g) (szG l g + 32)
      have h2 := szG_sum l g
      omega
theorem chG_rng (bs : List (List UInt8)) (l : List Nat) (V : Nat → Nat → List UInt8) (g : Nat) : ∀ x ∈ chG bs l V g, ∃ m : Nat, x = (m : Int) ∧ m ≤ sumN l + 32 := by
  induction g with
  | zero => intro x hx; simp [chG] at hx
  | succ g ih =>
    intro x hx
    unfold chG at hx
    rcases List.mem_append.1 hx with h | h
    · exact ih x h
    · rw [List.mem_singleton] at h
      refine ⟨_, h, ?_⟩
      have h1 := chN_le (grpG bs l g) (V g) (szG l g + 32)
      have h2 := szG_sum l g
      omega
theorem rng_ci {z : List Int} {b : Nat} (h : ∀ x ∈ z, ∃ m : Nat, x = (m : Int) ∧ m ≤ b) (hb : b ≤ 1000000) (k : Nat) (hk : k < z.length) : -9223372036854775808 ≤ ci z k ∧ ci z k ≤ 9223372036854775807 := by
  obtain ⟨m, h1, h2⟩ := h (ci z k) (by
    unfold ci
    rw [List.getD_eq_getElem?_getD, List.getElem?_eq_getElem hk]
    exact List.getElem_mem hk)
  omega
theorem rv_nil (v : World) : RowV [] (.slice none 0 0) v := ⟨none, 0, rfl, ⟨by simp [bytesV], Nat.zero_le _, fun _ => rfl, fun h => by simp [bytesV] at h⟩⟩
theorem iv_nil (v : World) : IntsV [] (.slice none 0 0) v := ⟨none, 0, rfl, ⟨by simp [intsV], Nat.zero_le _, fun _ => rfl, fun h => by simp [intsV] at h⟩⟩
theorem nil_rng : ([] : List Int).length ≤ 1000 ∧ ∀ k, k < ([] : List Int).length → -9223372036854775808 ≤ ci [] k ∧ ci [] k ≤ 9223372036854775807 := ⟨by simp, fun k hk => absurd hk (by simp)⟩
theorem srb_walk (bs : List (List UInt8)) (c : Nat) (n j : Int) (o : Option Addr) (w : World) (A : Nat → Addr) (hE : Er.Errs w A) (hP : RbIs w o bs c) (hn : -9223372036854775808 ≤ n ∧ n ≤ 9223372036854775807) (hj : -9223372036854775808 ≤ j ∧ j ≤ 9223372036854775807) :
    Calls Tryz.prog 3 #[.slice o bs.length c, .int .i64 n, .int .i64 j] w fun e w' => e = .returned (.bool true) ∧ Below w.heap.size w w' := by
  have hle := hP.le
  unfold maxLen at hle
  by_cases h330 : 330 < bs.length
  · exact srb_long _ c n j o w h330 (by omega)
  have hbad : ∀ (k : Nat), k < 20 → (∀ v, RbIs v o bs c → Er.Errs v A → Calls Tryz.prog 5 #[.slice o bs.length c, .int .i64 n] v fun e w' => e = rd_e 152 (.pointer (some (A k))) ∧ Below v.heap.size v w') →
      (∀ v, RbIs v o bs c → Calls Tryz.prog 6 #[.slice o bs.length c, .int .i64 n] v fun e w' => e = r4 (k + 1) ∧ Below v.heap.size v w') →
      Calls Tryz.prog 3 #[.slice o bs.length c, .int .i64 n, .int .i64 j] w fun e w' => e = .returned (.bool true) ∧ Below w.heap.size w w' := fun k hk h1 h2 =>
    srb_of bs bs.length c n j ((k + 1 : Nat) : Int) (.iface 152 (.pointer (some (A k)))) [] [] [] o w A hE hP rfl (by omega) hj nil_rng nil_rng
      (fun v hv => Er.num_of A k hk v hv)
      (fun v hp hv => (h1 v hp hv).mono fun e w' ⟨he, hb⟩ => ⟨_, _, _, he, rv_nil _, iv_nil _, iv_nil _, hb⟩)
      (fun v hp => (h2 v hp).mono fun e w' ⟨he, hb⟩ => ⟨_, _, _, he, rv_nil _, iv_nil _, iv_nil _, hb⟩)
  by_cases hs : n < 0 ∨ 2000 < n
  · exact hbad 7 (by omega) (fun v _ hv => rebuild_bad n _ c o v _ _ hs hv.c7) (fun v _ => rrb_bad n _ c o v hs)
  obtain ⟨m, rfl⟩ : ∃ m : Nat, n = (m : Int) := ⟨n.toNat, by omega⟩
  have hm : m ≤ 2000 := by omega
  by_cases hN : bs.length ≠ totN (nbk m)
  · exact hbad 3 (by omega) (fun v _ hv => rebuild_form m _ c o v _ _ hm hN (by omega) hv.c3) (fun v _ => rrb_form m _ c o v hm hN (by omega))
  have hN : bs.length = totN (nbk m) := Classical.not_not.1 hN
  obtain ⟨l, hlq⟩ : ∃ l, shp m = l := ⟨_, rfl⟩
  have hT : bs.length = sumN l + 32 * l.length := by
    rw [hN, ← hlq, shp_sum]
    rfl
  have hco := fun v (hp : RbIs v o bs c) (hv : Er.Errs v A) => rebuild_of bs m bs.length c l hlq o v A (hv : Er.Six v A) hp hm rfl hT
  have hrb := fun v (hp : RbIs v o bs c) => rrb_of bs m bs.length c l hlq o v hp hm rfl hT
  have hsum : sumN l + 32 ≤ 1000000 := by
    have := nbk_bd m hm
    rw [← hlq, shp_sum]
    omega
  have hll : l.length ≤ 2 := by rw [← hlq]; exact (shp_len m).2
  by_cases hex : ∃ V, MndAll bs l V l.length ∧ zall ((fileG l V l.length).drop m)
  · obtain ⟨V, hV, hz⟩ := hex
    refine srb_of bs bs.length c m j 0 .nilIface ((fileG l V l.length).take m) (erG bs l l.length) (chG bs l V l.length) o w A hE hP rfl (by omega) hj
      ⟨by rw [erG_length]; omega, fun k hk => rng_ci (erG_rng bs l _) hsum k hk⟩ ⟨by rw [chG_length]; omega, fun k hk => rng_ci (chG_rng bs l V _) hsum k hk⟩
      (fun v hv => (Er.num_nil v).mono fun e w' ⟨h1, h2⟩ => ⟨h1, by rw [h2]; exact Below.refl _ _⟩)
      (fun v hp hv => (hco v hp hv).mono fun e w' ⟨hb, h⟩ => ?_)
      (fun v hp => (hrb v hp).mono fun e w' ⟨hb, h⟩ => ?_)
    · rcases h with ⟨hno, _⟩ | ⟨U, x0, x1, x2, hU, hz2, he, h0, h1, h2⟩
      · exact absurd hz (hno V hV)
      · rw [(hU.uniq hV).1] at h0
        rw [(hU.uniq hV).2] at h2
        exact ⟨x0, x1, x2, he, h0, h1, h2, hb⟩
    · rcases h with ⟨hno, _⟩ | ⟨U, x0, x1, x2, hU, hz2, he, h0, h1, h2⟩
      · exact absurd hz (hno V hV)
      · rw [(hU.uniq hV).1] at h0
        rw [(hU.uniq hV).2] at h2
        exact ⟨x0, x1, x2, he, h0, h1, h2, hb⟩
  · refine hbad 16 (by omega) (fun v hp hv => (hco v hp hv).mono fun e w' ⟨hb, h⟩ => ?_) (fun v hp => (hrb v hp).mono fun e w' ⟨hb, h⟩ => ?_)
    · rcases h with ⟨_, he⟩ | ⟨U, x0, x1, x2, hU, hz2, _⟩
      · exact ⟨he, hb⟩
      · exact absurd ⟨U, hU, hz2⟩ hex
    · rcases h with ⟨_, he⟩ | ⟨U, x0, x1, x2, hU, hz2, _⟩
      · exact ⟨he, hb⟩
      · exact absurd ⟨U, hU, hz2⟩ hex
end Go.Proofs.YtgifbpjmblemhaaGreatDoor
