/- The document's Rebuild. -/
import Derived.Test.YtgifbpjmblemhaaGreatDoorRrp
namespace Go.Proofs.YtgifbpjmblemhaaGreatDoor
open Go.RowKit
set_option linter.unusedVariables false
set_option linter.unusedSimpArgs false
def r4 (k : Nat) : Ending := .returned (.tuple #[.slice none 0 0, .slice none 0 0, .slice none 0 0, .int .i64 (k : Int)])
theorem rtotal_any (n : Nat) (w : World) (hn : n ≤ 2000) :
    Calls Tryz.prog 18 #[.int .i64 (n : Int)] w fun e w' => e = .returned (.tuple #[.int .i64 ((totN (nbk n) : Nat) : Int), .int .i64 0]) ∧ Below w.heap.size w w' := by
  have HS := Lib.hid (rshape_any n w hn)
  have hb := nbk_bd n hn
  have hl := shp_len n
  have hs := shp_sum n
  have HT : Hid (sumN (shp n) + 32 * (shp n).length = totN (nbk n)) := Lib.hid (by rw [shp_sum]; rfl)
  obtain ⟨l, hlq⟩ : ∃ l, shp n = l := ⟨_, rfl⟩
  rw [hlq] at HS hl HT hs
  have HSM : Hid (sumN l ≤ 1000000) := Lib.hid (by omega)
  clear hlq hs
  go_enter Tryz.func18, Tryz.ntmps18
  go_wp2_with fail
  refine HS.out.mono ?_; rintro e w1 ⟨x, rfl, ⟨o, c, rfl, hr⟩, hb1⟩
  have h1 := hr.le
  have h2 := hr.cap
  simp at h1
  unfold maxLen at h2
  have HR := Lib.hid hr
  have HB := Lib.hid hb1
  rw [natI_length]
  clear hr hb1 HS
  go_wp2_with fail
  go_loopw [6, 16] (fun s i wr => TtAt l w1 s i wr) (fun _ i _ => l.length - (intOf i).toNat)
  case atStart => exact ⟨0, Nat.zero_le _, rfl, rfl, rfl⟩
  case round =>
    obtain ⟨k, hk, rfl, rfl, rfl⟩ := hrel
    by_cases hlt : k < l.length
    · obtain ⟨b, off, rfl, _, hc⟩ := natI_cell HR.out k hlt
      have hst := sumN_take_succ l k hlt
      have hle := sumN_take_le l (k + 1)
      have hle2 := HSM.out
      have hk0 : (0 : Int) ≤ (k : Int) := by omega
      have hk1 : (k : Int) < (l.length : Int) := by omega
      obtain ⟨s, hs⟩ : ∃ s, sumN (l.take k) + 32 * k = s := ⟨_, rfl⟩
      rw [hs]
      have hs1 : s ≤ 2000000 := by omega
      have hx : l.getD k 0 ≤ 1000000 := by omega
      generalize l.getD k 0 = x at *
      have HX : Hid (sumN (l.take (k + 1)) + 32 * (k + 1) = s + (x + 32)) := Lib.hid (by omega)
      clear hst hle hle2 hs
      go_wp2_with fail
      go_roundw
      case rel => exact ⟨k + 1, by omega, by go_num, by rw [HX.out]; go_num, rfl⟩
      case measure => simp [intOf]; omega
    · obtain rfl : k = l.length := by omega
      rw [List.take_length]
      go_wp2_with fail
      go_ret2
      rw [HT.out]
      exact ⟨rfl, HB.out⟩
set_option maxRecDepth 100000 in
theorem rrb_bad (n : Int) (N c : Nat) (o : Option Addr) (w : World) (h : n < 0 ∨ 2000 < n) :
    Calls Tryz.prog 6 #[.slice o N c, .int .i64 n] w fun e w' => e = r4 8 ∧ Below w.heap.size w w' := by
  have HS := Lib.hid (rshape_bad n w h)
  clear h
  go_enter Tryz.func6, Tryz.ntmps6
  go_wp2_with fail
  refine HS.out.mono ?_; rintro e w1 ⟨rfl, rfl⟩
  go_wp2_with fail
  refine bodyPost_ret (results_tmp4 rfl _ _ _) rfl ?_
  exact ⟨rfl, Below.refl _ _⟩
set_option maxRecDepth 100000 in
theorem rrb_form (n N c : Nat) (o : Option Addr) (w : World) (hn : n ≤ 2000) (hN : N ≠ totN (nbk n)) (hN2 : N ≤ 9223372036854775807) :
    Calls Tryz.prog 6 #[.slice o N c, .int .i64 (n : Int)] w fun e w' => e = r4 4 ∧ Below w.heap.size w w' := by
  have HS := Lib.hid (rshape_any n w hn)
  have HT := Lib.hid (fun v => rtotal_any n v hn)
  have hb := nbk_bd n hn
  have hbd := totN_bd _ hb
  obtain ⟨T, hT⟩ : ∃ T, totN (nbk n) = T := ⟨_, rfl⟩
  rw [hT] at HT hbd hN
  have hne : ((T : Int) == (N : Int)) = false := beq_false_of_ne (by omega)
  have hnd : decide ((T : Int) = (N : Int)) = false := decide_eq_false (by omega)
  have hnn : ((T : Int) != (N : Int)) = true := by rw [bne_iff_ne]; omega
  have hni : ¬ (T : Int) = (N : Int) := by omega
  clear hT hN hb
  go_enter Tryz.func6, Tryz.ntmps6
  go_wp2_with fail
  refine HS.out.mono ?_; rintro e w1 ⟨x, rfl, _, hb1⟩
  have HB1 := Lib.hid hb1
  clear hb1 HS
  go_wp2_with fail
  refine (HT.out _).mono ?_; rintro e w2 ⟨rfl, hb2⟩
  have HB2 := Lib.hid (Kit.step HB1.out hb2)
  clear hb2 HT
  go_wp2_with fail
  refine bodyPost_ret (results_tmp4 rfl _ _ _) rfl ?_
  exact ⟨rfl, HB2.out⟩
def RrTo (bs : List (List UInt8)) (l : List Nat) (size : Nat) (w : World) (e : Ending) (w' : World) : Prop :=
  Below w.heap.size w w' ∧ (((∀ V, MndAll bs l V l.length → ¬ zall ((fileG l V l.length).drop size)) ∧ e = r4 17) ∨
    ∃ V x0 x1 x2, MndAll bs l V l.length ∧ zall ((fileG l V l.length).drop size) ∧ e = .returned (.tuple #[x0, x1, x2, .int .i64 0]) ∧ RowV ((fileG l V l.length).take size) x0 w' ∧ IntsV (erG bs l l.length) x1 w' ∧ IntsV (chG bs l V l.length) x2 w')
def RrAt (bs : List (List UInt8)) (l : List Nat) (w : World) (v0 vF vE vC iv : Value) (wr : World) : Prop :=
  ∃ (k B : Nat) (V : Nat → Nat → List UInt8), k ≤ l.length ∧ B = atG l k ∧ iv = .int .i64 k ∧ RbV (bs.drop B) v0 w ∧ MndAll bs l V k ∧ Rj (fileG l V k) vF vE vC (erG bs l k) (chG bs l V k) w wr
def R3At' (G : List (List UInt8)) (m s P gP gH : Nat) (w : World) (jv : Value) (wr : World) : Prop :=
  ∃ (j : Nat) (vs : Nat → List UInt8), j ≤ 8 ∧ jv = .int .i64 j ∧ (∀ t, t < j → ∃ H, Chg (vs t) (colB G t) m (gnL G m) H) ∧ Buf wr gP P (ptA vs s j 0) ∧ BRow wr gH m (hitK G vs j) ∧ Below w.heap.size w wr
def R5At' (vs : Nat → List UInt8) (s j P gP : Nat) (w : World) (iv : Value) (wr : World) : Prop :=
  ∃ i : Nat, i ≤ s ∧ iv = .int .i64 i ∧ Buf wr gP P (ptA vs s j i) ∧ Only gP w wr
def R6At' (G : List (List UInt8)) (vs : Nat → List UInt8) (D : List Int) (m j gH : Nat) (w : World) (iv : Value) (wr : World) : Prop :=
  ∃ q : Nat, q ≤ D.length ∧ iv = .int .i64 q ∧ BRow wr gH m (fun i => if hitK G vs j i then true else decide ((i : Int) ∈ D.take q)) ∧ Only gH w wr
def R7At' (G : List (List UInt8)) (vs : Nat → List UInt8) (m : Nat) (w : World) (nv iv : Value) (wr : World) : Prop :=
  ∃ i : Nat, i ≤ m ∧ iv = .int .i64 i ∧ nv = .int .i64 (chN G vs i : Nat) ∧ wr = w
def R8At' (z : List UInt8) (w : World) (iv : Value) (wr : World) : Prop :=
  ∃ i : Nat, i ≤ z.length ∧ iv = .int .i64 i ∧ (∀ q, q < i → co z q = 0) ∧ wr = w
set_option maxRecDepth 100000 in
set_option maxHeartbeats 8000000 in
theorem rrb_of (bs : List (List UInt8)) (n N c : Nat) (l : List Nat) (hlq : shp n = l) (o : Option Addr) (w : World) (hP : RbIs w o bs c) (hn : n ≤ 2000) (hN : bs.length = N) (hT : N = sumN l + 32 * l.length) :
    Calls Tryz.prog 6 #[.slice o N c, .int .i64 (n : Int)] w (RrTo bs l n w) := by
  have hnb := nbk_bd n hn
  have hnp := nbk_pos n
  have hll := shp_len n
  have hss := shp_sum n
  have hmem : ∀ k ∈ shp n, 1 ≤ k ∧ k ≤ 223 := shpN_mem (nbk n) hnp hnb
  have hnle := nbk_le n
  have htt : totN (nbk n) = N := by rw [hT, ← hlq, shp_sum]; rfl
  have hto := fun v => rtotal_any n v hn
  rw [htt] at hto
  rw [hlq] at hll hss hmem
  have hs := rshape_any n w hn
  rw [hlq] at hs
  have HS := Lib.hid hs
  have HTO := Lib.hid hto
  have HP := Lib.hid hP
  have HN := Lib.hid hN
  have HSS := Lib.hid hss
  have HMM := Lib.hid hmem
  have HNL := Lib.hid hnle
  have HT := Lib.hid hT
  have hNb : N ≤ 400 := by omega
  have hp1 := hP.le.1
  have hp2 := hP.le.2
  rw [hN] at hp1
  unfold maxLen at hp2
  clear hlq hP hN hT hss hmem hnle hs htt hto
  go_enter Tryz.func6, Tryz.ntmps6
  go_wp2_with fail
  refine HS.out.mono ?_; rintro e w1 ⟨x, rfl, ⟨o1, c1, rfl, hr⟩, hb1⟩
  have hc1 := hr.cap
  have hle1 := hr.le
  simp at hle1
  unfold maxLen at hc1
  have HR1 := Lib.hid hr
  have HB1 := Lib.hid hb1
  rw [natI_length]
  clear hr hb1 HS
  go_wp2_with fail
  refine (HTO.out _).mono ?_; rintro e w2 ⟨rfl, hb2⟩
  have HR2 := Lib.hid (HR1.out.later hb2)
  have HB2 := Lib.hid (Kit.step HB1.out hb2)
  have HP2 := Lib.hid (HP.out.later HB2.out)
  clear hb2 HTO HR1 HB1
  go_wp2_with fail
  obtain ⟨w3, hw3⟩ : ∃ w3, w2.alloc (.cells #[] 5) = w3 := ⟨_, rfl⟩
  obtain ⟨w4, hw4⟩ : ∃ w4, w3.alloc (.cells #[] 3) = w4 := ⟨_, rfl⟩
  obtain ⟨w5, hw5⟩ : ∃ w5, w4.alloc (.cells #[] 3) = w5 := ⟨_, rfl⟩
  rw [hw3, hw4, hw5]
  have e3 : w3.heap.size = w2.heap.size + 1 := by rw [← hw3]; simp
  have e4 : w4.heap.size = w2.heap.size + 1 + 1 := by rw [← hw4]; simp [e3]
  have b3 : Below w2.heap.size w2 w3 := by rw [← hw3]; exact below_new _ _
  have b4 : Below w3.heap.size w3 w4 := by rw [← hw4]; exact below_new _ _
  have b5 : Below w4.heap.size w4 w5 := by rw [← hw5]; exact below_new _ _
  have o3 : w3.ownsRow w2.heap.size 5 1 (.slice (some ⟨w2.heap.size, 0, none⟩) 0 0) 0 (bytesV []) := by rw [← hw3]; exact World.ownsRow_lit w2 #[] 0 (Nat.le_refl _) (Nat.zero_le _) rfl
  have o4 : w4.ownsRow w2.heap.size 3 1 (.slice (some ⟨w3.heap.size, 0, none⟩) 0 0) 0 (intsV []) := by rw [← hw4]; exact World.ownsRow_lit w3 #[] 0 b3.size (Nat.zero_le _) rfl
  have o5 : w5.ownsRow w2.heap.size 3 1 (.slice (some ⟨w4.heap.size, 0, none⟩) 0 0) 0 (intsV []) := by rw [← hw5]; exact World.ownsRow_lit w4 #[] 0 (by omega) (Nat.zero_le _) rfl
  have hrj : Rj [] _ _ _ [] [] w2 w5 := ⟨owns_laterB (owns_laterB o3 b4) b5, owns_laterB o4 b5, o5, .inr (fun e => by simp [Value.ownBlock] at e; omega), Kit.step (Kit.step b3 b4) b5⟩
  rw [e3, e4] at hrj
  have HRJ := Lib.hid hrj
  clear hrj o3 o4 o5 b3 b4 b5 e3 e4 hw3 hw4 hw5
  obtain ⟨i0, hi0, hz0, hz1, hz2⟩ := info_parts info_u8
  go_loopw [0, 12, 13, 14, 60] (fun v0 vF vE vC iv wr => RrAt bs l w2 v0 vF vE vC iv wr) (fun _ _ _ _ iv _ => l.length - (intOf iv).toNat)
  case atStart => exact ⟨0, 0, fun _ _ => [], Nat.zero_le _, (atG_zero l).symm, rfl, ⟨o, c, by simp [HN.out], by simpa using HP2.out⟩, fun h hh => absurd hh (by omega), HRJ.out⟩
  case round =>
    clear HRJ
    rename World => W1
    obtain ⟨k, B, V, hk, hB, rfl, ⟨o0, c0, rfl, hv0⟩, hmv, hrj⟩ := hrel
    have HRJ := Lib.hid hrj
    have HMV := Lib.hid hmv
    have HBQ := Lib.hid hB
    have h0l := hv0.le.1
    have h0c := hv0.le.2
    unfold maxLen at h0c
    have hdl : (bs.drop B).length = N - B := by rw [List.length_drop, HN.out]
    rw [hdl] at h0l ⊢
    obtain ⟨r, hr⟩ : ∃ r, N - B = r := ⟨_, rfl⟩
    rw [hr] at h0l ⊢
    by_cases hlt : k < l.length
    · obtain ⟨b1, off1, rfl, _, hcl⟩ := natI_cell (HR2.out.later hrj.below) k hlt
      change W1.cell? _ = some (.int .i64 ((szG l k : Nat) : Int)) at hcl
      have hst := atG_succ l k hlt
      have hsl := atG_le l k hlt
      rw [← HT.out] at hsl
      have hmk := HMM.out _ (szG_mem l k hlt)
      have hgg : grpG bs l k = (bs.drop B).take (szG l k + 32) := by rw [hB]; rfl
      obtain ⟨s, hs⟩ : ∃ s, szG l k = s := ⟨_, rfl⟩
      rw [hs] at hcl hst hmk hsl hgg
      rw [← hB] at hst hsl
      have hs1 := hmk.1
      have hs2 := hmk.2
      have hsr : s + 32 ≤ r := by omega
      have hk0 : (0 : Int) ≤ (k : Int) := by omega
      have hk1 : (k : Int) < (l.length : Int) := by omega
      obtain ⟨b0, off0, p0, q0, rfl, _⟩ := hv0.cell 0 (by rw [hdl, hr]; omega)
      have htk := hv0.take (s + 32) (by rw [hdl, hr]; omega)
      rw [← hgg] at htk
      have hdd := hv0.drop (s + 32) (by rw [hdl, hr]; omega)
      rw [List.drop_drop] at hdd
      have hgl : (grpG bs l k).length = s + 32 := by rw [hgg, List.length_take, hdl]; omega
      have HDD := Lib.hid hdd
      have HST := Lib.hid hst
      have HSZ := Lib.hid hs
      have HRR := Lib.hid hr
      obtain ⟨m, hm⟩ : ∃ m, s + 32 = m := ⟨_, rfl⟩
      have hmi : (s : Int) + 32 = (m : Int) := by omega
      have hmc : (m : Int) ≤ (c0 : Int) := by omega
      have hmr : (m : Int) ≤ (r : Int) := by omega
      have hm33 : 33 ≤ m := by omega
      have hm255 : m ≤ 255 := by omega
      rw [hm] at hgl
      have HMQ := Lib.hid hm
      have HGL := Lib.hid hgl
      obtain ⟨G, hG⟩ : ∃ G, grpG bs l k = G := ⟨_, rfl⟩
      rw [hG] at htk HGL
      have HTK : Hid (RbIs W1 (some ⟨b0, off0, none⟩) G c0) := Lib.hid (htk.later hrj.below)
      have HGG := Lib.hid hG
      obtain ⟨w6, hw6⟩ : ∃ w6, W1.alloc (.cells #[] 3) = w6 := ⟨_, rfl⟩
      have HO6 : Hid (w6.ownsRow W1.heap.size 3 1 (.slice (some ⟨W1.heap.size, 0, none⟩) 0 0) 0 (intsV [])) := Lib.hid (by rw [← hw6]; exact World.ownsRow_lit W1 #[] 0 (Nat.le_refl _) (Nat.zero_le _) rfl)
      have HB6 : Hid (Below W1.heap.size W1 w6) := Lib.hid (by rw [← hw6]; exact below_new _ _)
      have HW6 := Lib.hid hw6
      have HVA : Hid (m = c0 → RbV (bs.drop (B + (s + 32))) (.slice (some ⟨b0, off0, none⟩) 0 0) w2) := Lib.hid fun e => by
        have h1 := hdd.le.1
        have h2 : (bs.drop (B + (s + 32))).length = 0 := by omega
        have h3 : r - m = 0 := by
          rw [List.length_drop, HN.out] at h2
          omega
        refine ⟨_, 0, by rw [h2], ?_⟩
        rw [List.eq_nil_of_length_eq_zero h2]
        exact RbIs.empty _ _ (Nat.zero_le _) (by simp)
      have HVB : Hid (RbV (bs.drop (B + (s + 32))) (.slice (some ⟨b0, off0 + m, none⟩) (r - m) (c0 - m)) w2) := Lib.hid (by
        rw [← hm]
        refine ⟨some ⟨b0, off0 + (s + 32), none⟩, c0 - (s + 32), ?_, hdd⟩
        rw [List.length_drop, HN.out, show N - (B + (s + 32)) = r - (s + 32) by omega])
      clear hrj hmv hv0 hst hsl hmk hgg hs hr htk hdd hgl hB hm hdl hG hw6
      by_cases hcm : c0 = m
      case' pos =>
        obtain rfl : m = c0 := hcm.symm
        have hvx := HVA.out rfl
        clear HVA HVB hcm
        have HVX := Lib.hid hvx
        clear hvx
        go_wp2_with (rw [HW6.out])
        generalize Value.slice (some { block := b0, off := off0 }) 0 0 = v0x at HVX ⊢
      case' neg =>
        have HVX := HVB.out
        clear HVA HVB
        have HVX := Lib.hid HVX
        go_wp2_with (rw [HW6.out])
        generalize Value.slice (some { block := b0, off := off0 + m }) (r - m) (c0 - m) = v0x at HVX ⊢
      all_goals
        go_loopw [18, 75] (fun v iv wr2 => GnlAt G m W1 v iv wr2) (fun _ iv _ => m - (intOf iv).toNat)
        case atStart => exact ⟨0, Nat.zero_le _, rfl, HO6.out, HB6.out⟩
        case round =>
          clear HO6 HB6 HW6
          rename World => W2
          obtain ⟨i, hi, rfl, hv, hb⟩ := hrel
          have HV := Lib.hid hv
          have HB := Lib.hid hb
          by_cases him : i < m
          · have hi0' : (0 : Int) ≤ (i : Int) := by omega
            have hi1 : (i : Int) < (m : Int) := by omega
            obtain ⟨b2, off2, p, q, e2, _, hc1', hrow⟩ := (HTK.out.later hb).cell i (by have := HGL.out; omega)
            cases e2
            have hgl := gnL_length G i
            have hgs : gnL G (i + 1) = if (bi G i).length = 8 then gnL G i else gnL G i ++ [(i : Int)] := rfl
            have hq1 := hrow.le
            have hq2 := hrow.cap
            simp at hq1
            unfold maxLen at hq2
            by_cases h8 : (bi G i).length = 8
            · rw [if_pos h8] at hgs
              have HGS := Lib.hid hgs
              rw [h8] at hc1' hq1
              clear hv hb hrow hgs h8
              go_wp2_with fail
              go_roundw
              case rel => exact ⟨i + 1, by omega, by go_num, by rw [HGS.out]; exact HV.out, HB.out⟩
              case measure => simp [intOf]; omega
            · rw [if_neg h8] at hgs
              have HGS := Lib.hid hgs
              obtain ⟨L, hL⟩ : ∃ L, (bi G i).length = L := ⟨_, rfl⟩
              rw [hL] at hc1' h8 hq1
              have hnb' : ((L : Int) == 8) = false := beq_false_of_ne (by omega)
              have hnd : decide ((L : Int) = 8) = false := decide_eq_false (by omega)
              have hnn : ((L : Int) != 8) = true := by rw [bne_iff_ne]; omega
              have hni : ¬ (L : Int) = 8 := by omega
              obtain ⟨w3, hw3⟩ : ∃ w3, W2.alloc (.cells #[.int .i64 (i : Int)] 3) = w3 := ⟨_, rfl⟩
              have HO3 : Hid (w3.ownsRow W1.heap.size 3 1 _ (gnL G i).length (intsV (gnL G i))) := Lib.hid (by rw [← hw3]; exact World.ownsRow.alloc hv _)
              have HC3 : Hid (w3.cell? ⟨W2.heap.size, 0, none⟩ = some (.int .i64 (i : Int))) := Lib.hid (by rw [← hw3]; exact cell_new W2 _ _ _ rfl)
              have HB3 : Hid (Below W1.heap.size W1 w3) := Lib.hid (by rw [← hw3]; exact hb.alloc hb.size _)
              have HW3 := Lib.hid hw3
              have HGLI := Lib.hid hgl
              clear hv hb hrow hgs h8 hL hw3 hgl
              go_wp2_with (first | rw [HW3.out] | (at_builtin; refine append_int rfl (.tmp 83) (.tmp 85) rfl W1.heap.size _ (gnL G i).length (gnL G i) rfl HO3.out _ (i : Int) rfl HC3.out (by have := HGLI.out; omega) HB3.out.size ?_))
              intro v' w4 hv hg
              have HV4 : Hid (w4.ownsRow W1.heap.size 3 1 v' (gnL G (i + 1)).length (intsV (gnL G (i + 1)))) := Lib.hid (by rw [HGS.out, List.length_append]; exact hv)
              have HB4 := Lib.hid (own_belowI HB3.out HO3.out hg)
              clear hv hg
              go_wp2_with fail
              go_roundw
              case rel => exact ⟨i + 1, by omega, by go_num, HV4.out, HB4.out⟩
              case measure => simp [intOf]; omega
          · obtain rfl : m = i := by omega
            obtain ⟨oz, cz, rfl, hz⟩ := owns_ints hv rfl
            have HZ := Lib.hid hz
            have hgnl := gnL_length G m
            obtain ⟨P, hP8⟩ : ∃ P, 8 * s = P := ⟨_, rfl⟩
            have hPb : P ≤ 1784 := by omega
            have hPi : 8 * (s : Int) = (P : Int) := by omega
            have hPw : IntKind.i64.wrap (8 * (s : Int)) = (P : Int) := by rw [IntKind.wrap_i64]; omega
            have HP8 := Lib.hid hP8
            have hmkb := make_bools4 m (by omega)
            have hzl := hz.le
            have hzc := hz.cap
            simp only [intsV_length] at hzl
            unfold maxLen at hzc
            clear hv hb hz hP8
            go_wp2_with (at_make; refine wpList_make_full _ rfl _ _ 24 rfl 0 5 i0 (.int .u8 0) 1 Tryz.underlying24 hi0 hz0 hz1 _ _ _ _ P rfl rfl (by omega) (by omega) (by rw [hz2]; omega) (by unfold maxLen; omega) (Nat.zero_le _) ?_)
            intro w7 hown hgrow
            have hb7 : Below W2.heap.size W2 w7 := (Below.refl _ _).grown hgrow (Nat.le_refl _) (fun k h => by cases h)
            have hbf7 : Buf w7 W2.heap.size P (ptA (fun _ => []) s 0 0) := by rw [ptA_start, HP8.out]; exact buf_made hown
            obtain ⟨w8, hw8⟩ : ∃ w8, w7.alloc (.cells (Array.replicate m (.bool false)) 4) = w8 := ⟨_, rfl⟩
            have hb8 : Below w7.heap.size w7 w8 := by rw [← hw8]; exact below_new _ _
            have hbr8 : BRow w8 w7.heap.size m (hitK G (fun _ => []) 0) := by rw [← hw8]; exact brow_new w7 m
            have hgl7 := hbf7.lt
            obtain ⟨gP, hgP⟩ : ∃ g, W2.heap.size = g := ⟨_, rfl⟩
            obtain ⟨gH, hgH⟩ : ∃ g, w7.heap.size = g := ⟨_, rfl⟩
            have HR3 : Hid (R3At' G m s P gP gH W2 (.int .i64 ((0 : Nat) : Int)) w8) := Lib.hid ⟨0, _, Nat.zero_le _, rfl, fun t ht => absurd ht (by omega), by rw [← hgP]; exact hbf7.later hb8, by rw [← hgH]; exact hbr8, Kit.step hb7 hb8⟩
            have HPG : Hid (W2.heap.size ≤ gP) := Lib.hid (by omega)
            have HHG : Hid (W2.heap.size ≤ gH) := Lib.hid (by omega)
            have HGP := Lib.hid hgP
            have HGH := Lib.hid hgH
            have HW8 := Lib.hid hw8
            clear hown hgrow hb7 hbf7 hb8 hbr8 hgl7 hgP hgH hw8
            go_wp2_with (rw [HW8.out])
            rw [HGP.out, HGH.out]
            go_loopw [23] (fun jv wr3 => R3At' G m s P gP gH W2 jv wr3) (fun jv _ => 8 - (intOf jv).toNat)
            case atStart => exact HR3.out
            case round =>
              clear HR3 HGP HGH HW8
              rename World => W3
              obtain ⟨j, vs, hj, rfl, hvs, hbp, hbh, hb3⟩ := hrel
              have HVS := Lib.hid hvs
              have HBP := Lib.hid hbp
              have HBH := Lib.hid hbh
              have HB3 := Lib.hid hb3
              by_cases hj8 : j < 8
              · have hj0 : (0 : Int) ≤ (j : Int) := by omega
                have hj1 : (j : Int) < 8 := by omega
                clear hvs hbp hbh hb3 hPw hPi
                go_wp2_with (at_make; refine wpList_make_full _ rfl _ _ 24 rfl 0 5 i0 (.int .u8 0) 1 Tryz.underlying24 hi0 hz0 hz1 _ _ _ _ m rfl rfl (by omega) (by omega) (by rw [hz2]; omega) (by unfold maxLen; omega) (Nat.zero_le _) ?_)
                intro w9 hown hgrow
                have HB9 : Hid (Below W3.heap.size W3 w9) := Lib.hid ((Below.refl _ _).grown hgrow (Nat.le_refl _) (fun k h => by cases h))
                have HBF : Hid (Buf w9 W3.heap.size m (colAt G j m 0)) := Lib.hid (by rw [colAt_zero]; exact buf_made hown)
                clear hown hgrow
                go_wp2_with fail
                go_loopw [103] (fun iv wr4 => ColAt G j m W3 iv wr4) (fun iv _ => m - (intOf iv).toNat)
                case atStart => exact ⟨0, Nat.zero_le _, rfl, HBF.out, HB9.out⟩
                case round =>
                  clear HB9 HBF
                  rename World => W4
                  obtain ⟨i, him, rfl, hbw, hb4⟩ := hrel
                  have HBW := Lib.hid hbw
                  have HB4 := Lib.hid hb4
                  by_cases hil : i < m
                  · have hi0' : (0 : Int) ≤ (i : Int) := by omega
                    have hi1 : (i : Int) < (m : Int) := by omega
                    obtain ⟨b2, off2, p, q, e2, _, hc1', hrow⟩ := (HTK.out.later (Kit.step (Kit.step HB.out HB3.out) hb4)).cell i (by have := HGL.out; omega)
                    cases e2
                    by_cases h8 : (bi G i).length = 8
                    · have hst := hbw.store i (co (bi G i) j)
                      have HST : Hid (Buf (W4.setCell ⟨W3.heap.size, i, none⟩ (.int .u8 ((co (bi G i) j).toNat : Int))) W3.heap.size m (colAt G j m (i + 1))) := Lib.hid (by rw [← colAt_yes G j m i hil h8]; exact hst.1)
                      have HSO := Lib.hid hst.2
                      rw [h8] at hc1'
                      obtain ⟨b3, off3, rfl, _, hc2⟩ := hrow.cells (by simp; omega)
                      have hc3 : W4.cell? ⟨b3, off3 + j, none⟩ = some (.int .u8 ((co (bi G i) j).toNat : Int)) := hc2 j _ (bytesV_get _ j (by omega))
                      have hc4 := hbw.cell i (by simp [colAt]; omega)
                      have hf4 := hbw.frozen i
                      have hq2 := hrow.cap
                      have hq1 := hrow.le
                      simp at hq1
                      rw [h8] at hq1
                      unfold maxLen at hq2
                      generalize co (bi G i) j = x at *
                      generalize co (colAt G j m i) i = y at *
                      have hxl := UInt8.toNat_lt x
                      have hyl := UInt8.toNat_lt y
                      clear hbw hb4 hst hrow hc2 h8
                      go_wp2_with fail
                      go_roundw
                      case rel => exact ⟨i + 1, by omega, by go_num, HST.out, HB4.out.trans (Only.below HSO.out (Nat.le_refl _) HB4.out.size)⟩
                      case measure => simp [intOf]; omega
                    · have HST : Hid (Buf W4 W3.heap.size m (colAt G j m (i + 1))) := Lib.hid (by rw [colAt_no G j m i h8]; exact hbw)
                      obtain ⟨L, hL⟩ : ∃ L, (bi G i).length = L := ⟨_, rfl⟩
                      rw [hL] at hc1' h8
                      have hq1 := hrow.le
                      have hq2 := hrow.cap
                      simp at hq1
                      rw [hL] at hq1
                      unfold maxLen at hq2
                      have hnb' : ((L : Int) == 8) = false := beq_false_of_ne (by omega)
                      have hnd : decide ((L : Int) = 8) = false := decide_eq_false (by omega)
                      have hni : ¬ (L : Int) = 8 := by omega
                      clear hbw hb4 hrow hL h8
                      go_wp2_with fail
                      go_roundw
                      case rel => exact ⟨i + 1, by omega, by go_num, HST.out, HB4.out⟩
                      case measure => simp [intOf]; omega
                  · obtain rfl : m = i := by omega
                    have hcg : colAt G j m m = colB G j := by rw [← HGL.out, colAt_full]
                    rw [hcg] at hbw
                    have hlen : (colB G j).length = m := by rw [colB_length, HGL.out]
                    have hfx := rfix_grp (colB G j) G m m cz (some ⟨W3.heap.size, 0, none⟩) oz W4 hbw.row (HZ.out.later (Kit.step HB3.out hb4)) hlen hm33 hm255
                    have HFX := Lib.hid hfx
                    clear hcg hbw hb4 hlen hfx HBW
                    go_wp2_with fail
                    refine HFX.out.mono ?_; rintro e w10 ⟨hb10, ⟨hno, a, ha1, ha2, rfl⟩ | ⟨v, H, x1, x2, hch, rfl, hx1, hx2⟩⟩
                    · have HNO : Hid (∀ V, MndAll bs l V l.length → ¬ zall ((fileG l V l.length).drop n)) := Lib.hid fun V h => by
                        have := h k hlt
                        rw [HGG.out, HSZ.out, HMQ.out] at this
                        obtain ⟨H, h⟩ := this j hj8
                        exact absurd h (hno _ _)
                      have HBE := Lib.hid (Kit.step (Kit.step (Kit.step (Kit.step (HB2.out.trans (HRJ.out.below.mono HB2.out.size)) HB.out) HB3.out) HB4.out) hb10)
                      have hab : ((a : Int) == 0) = false := beq_false_of_ne (by omega)
                      have had : decide ((a : Int) = 0) = false := decide_eq_false (by omega)
                      have han : ((a : Int) != 0) = true := by rw [bne_iff_ne]; omega
                      have hai : ¬ (a : Int) = 0 := by omega
                      clear hb10 hno HFX
                      unfold bad_r
                      go_wp2_with fail
                      refine bodyPost_ret (results_tmp4 rfl _ _ _) rfl ?_
                      exact ⟨HBE.out, .inl ⟨HNO.out, rfl⟩⟩
                    · obtain ⟨g1, cap1, rfl, hg1, hbv⟩ := hx1
                      have hvl := hch.lv
                      rw [hvl]
                      obtain ⟨us, hus⟩ : ∃ us : Nat → List UInt8, (fun t => if t = j then v else vs t) = us := ⟨_, rfl⟩
                      have husj : us j = v := by rw [← hus]; simp
                      have hult : ∀ t, t < j → vs t = us t := fun t ht => by rw [← hus]; simp [Nat.ne_of_lt ht]
                      have hrng := ci_rng v (colB G j) m
                      obtain ⟨D, hD⟩ : ∃ D, dfL v (colB G j) m = D := ⟨_, rfl⟩
                      have HDI : Hid (∀ i, i < m → (if hitK G us j i then true else decide ((i : Int) ∈ D)) = hitK G us (j + 1) i) := Lib.hid fun i hi => by
                        show _ = (hitK G us j i || decide (co (us j) i ≠ co (colB G j) i))
                        rw [← hD, husj]
                        have := dfL_iff v (colB G j) m i
                        by_cases h1 : hitK G us j i = true
                        · rw [h1]; rfl
                        · rw [if_neg h1, Bool.eq_false_iff.2 h1, Bool.false_or]
                          by_cases h2 : co v i = co (colB G j) i
                          · rw [decide_eq_false (fun h => (this.1 h).2 h2), decide_eq_false (fun h => h h2)]
                          · rw [decide_eq_true (this.2 ⟨hi, h2⟩), decide_eq_true h2]
                      have HUS : Hid (∀ t, t < j + 1 → ∃ H, Chg (us t) (colB G t) m (gnL G m) H) := Lib.hid fun t ht => by
                        by_cases e : t = j
                        · rw [e, husj]
                          exact ⟨H, hch⟩
                        · rw [← hult t (by omega)]
                          exact HVS.out t (by omega)
                      rw [hD] at hx2 hrng
                      have hb3w : Below W3.heap.size W3 w10 := Kit.step HB4.out hb10
                      have hbp10 := HBP.out.later hb3w
                      rw [ptA_congr s j hult] at hbp10
                      have hbh10 : BRow w10 gH m (hitK G us j) := (HBH.out.later hb3w).cong fun i _ => hitK_congr j i hult
                      have hgp4 : gP < g1 := Nat.lt_of_lt_of_le (Nat.lt_of_lt_of_le HBP.out.lt HB4.out.size) hg1
                      have hpne : gP ≠ gH := fun e => by
                        obtain ⟨cur, hc⟩ := HBP.out.cells
                        have hc2 := HBH.out
                        unfold BRow at hc2
                        rw [e, hc2] at hc
                        cases hc
                      have HX2 := Lib.hid hx2
                      obtain ⟨o2, c2, rfl, _⟩ := hx2.iv
                      have HBV := Lib.hid hbv
                      have HPP := Lib.hid hbp10
                      have HHH := Lib.hid hbh10
                      have HRG := Lib.hid hrng
                      have HNE := Lib.hid hpne
                      have HGN : Hid (g1 ≠ gP) := Lib.hid (by omega)
                      have HUJ := Lib.hid husj
                      have HVL := Lib.hid hvl
                      have HBW := Lib.hid (Kit.step HB3.out hb3w)
                      have hcap1 := hbv.le
                      rw [hvl] at hcap1
                      unfold maxLen at hcap1
                      have hc21 := hcap1.1
                      have hc22 := hcap1.2
                      have hdle : D.length ≤ m := by rw [← hD]; exact dfL_length _ _ _
                      have hdc : D.length ≤ c2 ∧ c2 ≤ maxLen := by
                        obtain ⟨o3, c3, e, hd3⟩ := HX2.out.iv
                        cases e
                        exact ⟨by have := hd3.le; simpa using this, hd3.cap⟩
                      unfold maxLen at hdc
                      have hdc1 := hdc.1
                      have hdc2 := hdc.2
                      clear hg1 hbv hvl hus hult hD hx2 hb3w hbp10 hbh10 hgp4 hpne hrng hch hb10 HFX husj hcap1 hdc
                      go_wp2_with fail
                      go_loopw [31] (fun iv wr5 => R5At' us s j P gP w10 iv wr5) (fun iv _ => s - (intOf iv).toNat)
                      case atStart => exact ⟨0, Nat.zero_le _, rfl, HPP.out, Only.refl _ _⟩
                      case round =>
                        rename World => W5
                        obtain ⟨i, his, rfl, hbp, ho5⟩ := hrel
                        have HO5 := Lib.hid ho5
                        by_cases hil : i < s
                        · have hbv5 : Buf W5 g1 cap1 v := World.ownsRow.kept HBV.out ho5 (.inr fun q => HGN.out (by cases q; rfl))
                          have hcv := hbv5.cell i (by rw [HVL.out]; omega)
                          obtain ⟨q, hq⟩ : ∃ q, 8 * i + j = q := ⟨_, rfl⟩
                          have hqP : q < P := by have := HP8.out; omega
                          have hqi : 8 * (i : Int) + (j : Int) = (q : Int) := by omega
                          have hcp := hbp.cell q (by rw [ptA_length, HP8.out]; exact hqP)
                          have hfp := hbp.frozen q
                          have hst := hbp.store q (co v i)
                          have HST : Hid (Buf (W5.setCell ⟨gP, q, none⟩ (.int .u8 ((co v i).toNat : Int))) gP P (ptA us s j (i + 1))) := Lib.hid (by
                            have h1 := hst.1
                            rw [← hq, ← HUJ.out, ptA_put us s j i hil hj8] at h1
                            rw [← hq, ← HUJ.out]
                            exact h1)
                          have HSO := Lib.hid hst.2
                          generalize co v i = x at *
                          generalize co (ptA us s j i) q = y at *
                          have hxl := UInt8.toNat_lt x
                          have hyl := UInt8.toNat_lt y
                          have hi0' : (0 : Int) ≤ (i : Int) := by omega
                          have hi1 : (i : Int) < (s : Int) := by omega
                          have hq0 : (0 : Int) ≤ (q : Int) := by omega
                          have hq1 : (q : Int) < (P : Int) := by omega
                          clear hbp ho5 hbv5 hst hq
                          go_wp2_with fail
                          go_roundw
                          case rel => exact ⟨i + 1, by omega, by go_num, HST.out, HO5.out.trans HSO.out⟩
                          case measure => simp [intOf]; omega
                        · obtain rfl : s = i := by omega
                          rw [ptA_next] at hbp
                          have HBP5 := Lib.hid hbp
                          have hx25 : FrI D _ W4 W5 := World.ownsRow.kept HX2.out ho5 (by
                            obtain ⟨cur, hc⟩ := HPP.out.cells
                            exact own_ne_T HX2.out hc (by decide))
                          have HX5 := Lib.hid hx25
                          have HBH5 : Hid (BRow W5 gH m (fun i => if hitK G us j i then true else decide ((i : Int) ∈ D.take 0))) := Lib.hid ((HHH.out.only ho5 (fun e => HNE.out e.symm)).cong fun i _ => by
                            cases hitK G us j i <;> simp)
                          clear hbp ho5 hx25
                          go_wp2_with fail
                          go_loopw [146] (fun iv wr6 => R6At' G us D m j gH W5 iv wr6) (fun iv _ => D.length - (intOf iv).toNat)
                          case atStart => exact ⟨0, Nat.zero_le _, rfl, HBH5.out, Only.refl _ _⟩
                          case round =>
                            rename World => W6
                            clear HBH5
                            obtain ⟨q, hqd, rfl, hbh, ho6⟩ := hrel
                            have HO6 := Lib.hid ho6
                            by_cases hql : q < D.length
                            · have hx26 : FrI D (.slice o2 D.length c2) W4 W6 := World.ownsRow.kept HX5.out ho6 (own_ne_T HX5.out (show W5.heap[gH]? = _ from (HHH.out.only HO5.out (fun e => HNE.out e.symm))) (by decide))
                              obtain ⟨o3, c3, e3, hd3⟩ := hx26.iv
                              cases e3
                              obtain ⟨b3, off3, rfl, hcd⟩ := ints_cell hd3 q hql
                              obtain ⟨p, hp, hpm⟩ := HRG.out q hql
                              rw [hp] at hcd
                              have hch := hbh.cell p hpm
                              have hfh := hbh.frozen p
                              have hst := hbh.store p true
                              have HST : Hid (BRow (W6.setCell ⟨gH, p, none⟩ (.bool true)) gH m (fun i => if hitK G us j i then true else decide ((i : Int) ∈ D.take (q + 1)))) := Lib.hid (hst.1.cong fun i _ => by
                                have := take_mem hql hp i
                                by_cases h1 : hitK G us j i = true
                                · rw [h1]; simp
                                · rw [Bool.eq_false_iff.2 h1]
                                  exact this)
                              have HSO := Lib.hid hst.2
                              have hq0 : (0 : Int) ≤ (q : Int) := by omega
                              have hq1 : (q : Int) < (D.length : Int) := by omega
                              have hp0 : (0 : Int) ≤ (p : Int) := by omega
                              have hp1 : (p : Int) < (m : Int) := by omega
                              clear hbh ho6 hx26 hd3 hp hst
                              go_wp2_with fail
                              go_roundw
                              case rel => exact ⟨q + 1, by omega, by go_num, HST.out, HO6.out.trans HSO.out⟩
                              case measure => simp [intOf]; omega
                            · obtain rfl : q = D.length := by omega
                              rw [List.take_length] at hbh
                              have HBE := Lib.hid (hbh.cong HDI.out)
                              have HPE : Hid (Buf W6 gP P (ptA us s (j + 1) 0)) := Lib.hid (World.ownsRow.kept HBP5.out ho6 (.inr fun q => HNE.out (by cases q; rfl)))
                              have hb5 := HBW.out.trans (Only.below HO5.out HPG.out HBW.out.size)
                              have HB6 := Lib.hid (hb5.trans (Only.below ho6 HHG.out hb5.size))
                              clear hbh ho6 hb5
                              go_wp2_with fail
                              go_roundw
                              case rel => exact ⟨j + 1, us, by omega, by go_num, HUS.out, HPE.out, HBE.out, HB6.out⟩
                              case measure => simp [intOf]; omega
              · have hj9 : (j : Int) = 8 := by omega
                have hdj : decide ((j : Int) < 8) = false := decide_eq_false (by omega)
                have hje : j = 8 := by omega
                have HMN : Hid (Mnd G m vs) := Lib.hid fun t ht => hvs t (by omega)
                rw [hje] at hbp hbh
                rw [ptA_all] at hbp
                have HBP8 := Lib.hid hbp
                have HBH8 := Lib.hid hbh
                clear hvs hbp hbh hb3 hPw hPi hje HVS HBP HBH
                go_wp2_with fail
                go_loopw [34, 156] (fun nv iv wr7 => R7At' G vs m W3 nv iv wr7) (fun _ iv _ => m - (intOf iv).toNat)
                case atStart => exact ⟨0, Nat.zero_le _, rfl, rfl, rfl⟩
                case round =>
                  obtain ⟨i, him, rfl, rfl, rfl⟩ := hrel
                  have hcl7 := chN_le G vs i
                  by_cases hil : i < m
                  · have hi0' : (0 : Int) ≤ (i : Int) := by omega
                    have hi1 : (i : Int) < (m : Int) := by omega
                    obtain ⟨b2, off2, p, q, e2, _, hc1', hrow⟩ := (HTK.out.later (Kit.step HB.out HB3.out)).cell i (by have := HGL.out; omega)
                    cases e2
                    have hch := HBH8.out.cell i hil
                    have hcs : chN G vs (i + 1) = chN G vs i + if hitB G vs i = true then 1 else 0 := rfl
                    obtain ⟨cn, hcn⟩ : ∃ cn, chN G vs i = cn := ⟨_, rfl⟩
                    rw [hcn] at hcs hcl7 ⊢
                    by_cases h8 : (bi G i).length = 8
                    · have hka := hitK_all G vs i (by rw [HGL.out]; exact hil) h8
                      rw [hka] at hch
                      rw [h8] at hc1'
                      by_cases hh : hitB G vs i = true
                      · rw [hh] at hch hcs
                        have HCS : Hid (chN G vs (i + 1) = cn + 1) := Lib.hid hcs
                        clear hka hh hcs hcn h8 hrow
                        go_wp2_with fail
                        go_roundw
                        case rel => exact ⟨i + 1, by omega, by go_num, by rw [HCS.out]; go_num, rfl⟩
                        case measure => simp [intOf]; omega
                      · rw [Bool.eq_false_iff.2 hh] at hch
                        rw [if_neg hh] at hcs
                        have HCS : Hid (chN G vs (i + 1) = cn) := Lib.hid hcs
                        clear hka hh hcs hcn h8 hrow
                        go_wp2_with fail
                        go_roundw
                        case rel => exact ⟨i + 1, by omega, by go_num, by rw [HCS.out], rfl⟩
                        case measure => simp [intOf]; omega
                    · rw [if_neg (by rw [hitB_no G vs i h8]; decide)] at hcs
                      have HCS : Hid (chN G vs (i + 1) = cn) := Lib.hid hcs
                      by_cases hh : hitK G vs 8 i = true
                      · rw [hh] at hch
                        obtain ⟨L, hL⟩ : ∃ L, (bi G i).length = L := ⟨_, rfl⟩
                        have hq1 := hrow.le
                        have hq2 := hrow.cap
                        simp at hq1
                        rw [hL] at hc1' h8 hq1
                        unfold maxLen at hq2
                        have hnb' : ((L : Int) == 8) = false := beq_false_of_ne (by omega)
                        have hnd : decide ((L : Int) = 8) = false := decide_eq_false (by omega)
                        have hni : ¬ (L : Int) = 8 := by omega
                        clear hh hcs hcn hL h8 hrow
                        go_wp2_with fail
                        go_roundw
                        case rel => exact ⟨i + 1, by omega, by go_num, by rw [HCS.out], rfl⟩
                        case measure => simp [intOf]; omega
                      · rw [Bool.eq_false_iff.2 hh] at hch
                        clear hh hcs hcn h8 hrow hc1'
                        go_wp2_with fail
                        go_roundw
                        case rel => exact ⟨i + 1, by omega, by go_num, by rw [HCS.out], rfl⟩
                        case measure => simp [intOf]; omega
                  · obtain rfl : m = i := by omega
                    obtain ⟨gl, hgl⟩ : ∃ gl, (gnL G m).length = gl := ⟨_, rfl⟩
                    obtain ⟨ch, hch⟩ : ∃ ch, chN G vs m = ch := ⟨_, rfl⟩
                    rw [hgl, hch]
                    rw [hgl] at hgnl hzl
                    rw [hch] at hcl7
                    have hr0 := HRJ.out.later (Kit.step HB.out HB3.out)
                    obtain ⟨F, hF⟩ : ∃ F, fileG l V k = F := ⟨_, rfl⟩
                    obtain ⟨zE, hzE⟩ : ∃ zE, erG bs l k = zE := ⟨_, rfl⟩
                    obtain ⟨zC, hzC⟩ : ∃ zC, chG bs l V k = zC := ⟨_, rfl⟩
                    obtain ⟨U, hU⟩ : ∃ U : Nat → Nat → List UInt8, (fun g => if g = k then vs else V g) = U := ⟨_, rfl⟩
                    have hUV : ∀ a, a < k → V a = U a := fun a ha => by rw [← hU]; simp [Nat.ne_of_lt ha]
                    have hUk : U k = vs := by rw [← hU]; simp
                    have HFU : Hid (fileG l U (k + 1) = F ++ prt vs s) := Lib.hid (by
                      show fileG l U k ++ prt (U k) (szG l k) = _
                      rw [hUk, HSZ.out, ← hF, fileG_congr l hUV])
                    have HEU : Hid (erG bs l (k + 1) = zE ++ [(gl : Int)]) := Lib.hid (by
                      show erG bs l k ++ [((gnL (grpG bs l k) (szG l k + 32)).length : Int)] = _
                      rw [HSZ.out, HMQ.out, HGG.out, hgl, hzE])
                    have HCU : Hid (chG bs l U (k + 1) = zC ++ [(ch : Int)]) := Lib.hid (by
                      show chG bs l U k ++ [(chN (grpG bs l k) (U k) (szG l k + 32) : Int)] = _
                      rw [hUk, HSZ.out, HMQ.out, HGG.out, hch, ← hzC, chG_congr bs l hUV])
                    have HMU : Hid (MndAll bs l U (k + 1)) := Lib.hid fun h hh => by
                      by_cases e : h = k
                      · subst e
                        rw [hUk, HSZ.out, HMQ.out, HGG.out]
                        exact HMN.out
                      · rw [← hUV h (by omega)]
                        exact HMV.out h (by omega)
                    have hfl : F.length ≤ 8 * N := by
                      rw [← hF, fileG_length _ _ _ (by omega), HT.out]
                      have := sumN_take_le l k
                      omega
                    have hel : zE.length ≤ 1000 ∧ zC.length ≤ 1000 := by
                      rw [← hzE, ← hzC, erG_length, chG_length]
                      omega
                    rw [hF, hzE, hzC] at hr0
                    have HR0 := Lib.hid hr0
                    have HEL := Lib.hid hel
                    have HPR : Hid (P = (prt vs s).length) := Lib.hid (by rw [prt_length, HP8.out])
                    clear hr0 hU hUV hUk hF hzE hzC hgl hch hel
                    go_wp2_with (at_builtin; refine append_row rfl (.tmp 174) (.tmp 175) rfl w2.heap.size _ F.length F rfl HR0.out.f (some ⟨gP, 0, none⟩) P P (prt vs s) rfl HPR.out HBP8.out.row (by omega) HR0.out.below.size ?_)
                    intro vF' X1 hv hg
                    have HR1 := Lib.hid (HR0.out.fin hg hv HPR.out)
                    clear hv hg
                    obtain ⟨X2, hX2⟩ : ∃ X2, X1.alloc (.cells #[.int .i64 (gl : Int)] 3) = X2 := ⟨_, rfl⟩
                    have hbx2 : Below X1.heap.size X1 X2 := by rw [← hX2]; exact below_new _ _
                    have hi2 := HR1.out.new (gl : Int)
                    rw [hX2] at hi2
                    obtain ⟨o4, l4, c4, X3, hr4, hrj3, _⟩ := (HR1.out.later hbx2).app _ _ hi2 25 (by have := HEL.out; omega)
                    obtain ⟨X4, hX4⟩ : ∃ X4, X3.alloc (.cells #[.int .i64 (ch : Int)] 3) = X4 := ⟨_, rfl⟩
                    have hbx4 : Below X3.heap.size X3 X4 := by rw [← hX4]; exact below_new _ _
                    have hi4 := hrj3.swap.new (ch : Int)
                    rw [hX4] at hi4
                    obtain ⟨o9, l9, c9, X5, hr9, hrj5, _⟩ := (hrj3.swap.later hbx4).app _ _ hi4 25 (by have := HEL.out; omega)
                    have HR5 := Lib.hid hrj5.swap
                    have HX2 := Lib.hid hX2
                    have HX4 := Lib.hid hX4
                    have HA4 := Lib.hid hr4
                    have HA9 := Lib.hid hr9
                    clear hX2 hbx2 hi2 hr4 hrj3 hX4 hbx4 hi4 hr9 hrj5
                    go_wp2_with (first | rw [HX2.out] | rw [HX4.out] | (at_builtin; refine Lib.wpList_append_run _ rfl (.tmp 177) (.tmp 180) _ _ rfl _ _ rfl rfl _ _ HA4.out ?_) | (at_builtin; refine Lib.wpList_append_run _ rfl (.tmp 182) (.tmp 184) _ _ rfl _ _ rfl rfl _ _ HA9.out ?_))
                    go_roundw
                    case rel => exact ⟨k + 1, B + (s + 32), U, by omega, HST.out.symm, by go_num, HVX.out, HMU.out, by rw [HFU.out, HEU.out, HCU.out]; exact HR5.out⟩
                    case measure => simp [intOf]; omega
    · obtain rfl : k = l.length := by omega
      have hfl : (fileG l V l.length).length = 8 * nbk n := by rw [fileG_length _ _ _ (Nat.le_refl _), List.take_length, HSS.out]
      have hnle := HNL.out
      obtain ⟨gF, capF, rfl, hgF, hbF⟩ := own_buf hrj.f (by omega) rfl
      obtain ⟨oE, cE, rfl, hE⟩ := owns_ints hrj.e rfl
      obtain ⟨oC, cC, rfl, hC⟩ := owns_ints hrj.c rfl
      have hbz := Kit.step HB2.out hrj.below
      have hle := hbF.le
      rw [hfl] at hle ⊢
      have hmx := hle.2
      unfold maxLen at hmx
      have hdl2 : ((fileG l V l.length).drop n).length = 8 * nbk n - n := by rw [List.length_drop, hfl]
      have HX0 : Hid (RowV ((fileG l V l.length).take n) (.slice (some ⟨gF, 0, none⟩) n capF) W1) := Lib.hid (by
        have h2 := hbF.row.part 0 n (by rw [bytesV_length]; omega) capF (by omega) hle.2
        have h3 : ((bytesV (fileG l V l.length)).drop 0).take n = bytesV ((fileG l V l.length).take n) := by simp [bytesV]
        rw [h3] at h2
        exact ⟨_, _, by rw [List.length_take, Nat.min_eq_left (by omega)], h2⟩)
      have HX1 : Hid (IntsV (erG bs l l.length) (.slice oE (erG bs l l.length).length cE) W1) := Lib.hid ⟨_, _, rfl, hE⟩
      have HX2 : Hid (IntsV (chG bs l V l.length) (.slice oC (chG bs l V l.length).length cC) W1) := Lib.hid ⟨_, _, rfl, hC⟩
      have HBZ := Lib.hid hbz
      obtain ⟨L, hL⟩ : ∃ L, 8 * nbk n = L := ⟨_, rfl⟩
      rw [hL] at hle hdl2 hnle hfl ⊢
      have hd1 := hle.1
      have hLn : (n : Int) ≤ (L : Int) := by omega
      have hn0 : (0 : Int) ≤ (n : Int) := by omega
      have hlc : (L : Int) ≤ (capF : Int) := by omega
      have hlb : L ≤ 2000000 := by omega
      by_cases hcf : capF = n
      · have HZ : Hid (zall ((fileG l V l.length).drop n)) := Lib.hid fun i hi => absurd hi (by omega)
        have hLe : L = n := by omega
        clear hrj hmv hv0 hB hgF hbF hfl hdl2 hL hE hC hbz hdl
        subst hcf
        subst hLe
        go_wp2_with fail
        go_loopw [191] (fun iv wr => iv = .int .i64 ((0 : Nat) : Int) ∧ wr = W1) (fun _ _ => 0)
        case atStart => exact ⟨rfl, rfl⟩
        case round =>
          obtain ⟨rfl, rfl⟩ := hrel
          go_wp2_with fail
          refine bodyPost_ret (results_tmp4 rfl _ _ _) rfl ?_
          exact ⟨HBZ.out, .inr ⟨V, _, _, _, HMV.out, HZ.out, rfl, HX0.out, HX1.out, HX2.out⟩⟩
      · have h1 := hbF.row.part n (L - n) (by rw [bytesV_length, hfl]; omega) (capF - n) (by omega) (by unfold maxLen; omega)
        have h2 : ((bytesV (fileG l V l.length)).drop n).take (L - n) = bytesV ((fileG l V l.length).drop n) := by
          rw [List.take_of_length_le (by rw [List.length_drop, bytesV_length, hfl]; omega)]
          simp [bytesV]
        rw [h2, Nat.zero_add] at h1
        have HHR := Lib.hid h1
        have HMX : Hid (∀ U, MndAll bs l U l.length → fileG l U l.length = fileG l V l.length) := Lib.hid fun U hU => (MndAll.uniq hU HMV.out).1
        have HX3 : Hid (zall ((fileG l V l.length).drop n) → RrTo bs l n w (.returned (.tuple #[.slice (some ⟨gF, 0, none⟩) n capF, .slice oE (erG bs l l.length).length cE, .slice oC (chG bs l V l.length).length cC, .int .i64 0])) W1) := Lib.hid fun hz => ⟨HBZ.out, .inr ⟨V, _, _, _, HMV.out, hz, rfl, HX0.out, HX1.out, HX2.out⟩⟩
        obtain ⟨z, hz⟩ : ∃ z, (fileG l V l.length).drop n = z := ⟨_, rfl⟩
        have HX4 : Hid (¬ zall z → RrTo bs l n w (r4 17) W1) := Lib.hid fun h => ⟨HBZ.out, .inl ⟨fun U hU hq => h (by rw [← hz, ← HMX.out U hU]; exact hq), rfl⟩⟩
        rw [hz] at HHR HX3 hdl2
        obtain ⟨d, hd⟩ : ∃ d, L - n = d := ⟨_, rfl⟩
        rw [hd] at hdl2
        have HDL := Lib.hid hdl2
        have hdi : (L : Int) - (n : Int) = (d : Int) := by omega
        have hnc : n < capF := by omega
        obtain ⟨cf, hcfe⟩ : ∃ cf, capF - n = cf := ⟨_, rfl⟩
        clear hrj hmv hv0 hB hgF hbF hfl hdl2 hL hE hC hbz h1 h2 hz hdl
        go_wp2_with fail
        go_loopw [191] (fun iv wr => R8At' z W1 iv wr) (fun iv _ => d - (intOf iv).toNat)
        case atStart => exact ⟨0, Nat.zero_le _, rfl, fun _ h => absurd h (by omega), rfl⟩
        case round =>
          obtain ⟨i, hi, rfl, hall, rfl⟩ := hrel
          rw [HDL.out] at hi
          by_cases hil : i < d
          · have hi0' : (0 : Int) ≤ (i : Int) := by omega
            have hi1 : (i : Int) < (d : Int) := by omega
            obtain ⟨b3, off3, e3, _, hcell⟩ := HHR.out.cells (by rw [bytesV_length, HDL.out]; omega)
            cases e3
            have hc : wr.cell? ⟨gF, n + i, none⟩ = some (.int .u8 ((co z i).toNat : Int)) := hcell i _ (bytesV_get z i (by rw [HDL.out]; exact hil))
            have HALL := Lib.hid hall
            by_cases h0 : co z i = 0
            · rw [h0] at hc
              have HNX : Hid (∀ q, q < i + 1 → co z q = 0) := Lib.hid fun q hq => by
                by_cases e : q = i
                · rw [e]; exact h0
                · exact HALL.out q (by omega)
              clear hcell hall h0
              go_wp2_with fail
              go_roundw
              case rel => exact ⟨i + 1, by rw [HDL.out]; omega, by go_num, HNX.out, rfl⟩
              case measure => simp [intOf]; omega
            · have HBAD := Lib.hid (HX4.out fun h => h0 (h i (by rw [HDL.out]; exact hil)))
              have hyn : ¬ ((co z i).toNat : Int) = 0 := fun h => h0 (UInt8.toNat_inj.1 (by simpa using h))
              have hye : (((co z i).toNat : Int) == 0) = false := beq_false_of_ne hyn
              have hyd : decide (((co z i).toNat : Int) = 0) = false := decide_eq_false hyn
              have hyt : (((co z i).toNat : Int) != 0) = true := by rw [bne_iff_ne]; exact hyn
              have hxl := UInt8.toNat_lt (co z i)
              generalize co z i = x at *
              clear hcell hall h0
              go_wp2_with fail
              refine bodyPost_ret (results_tmp4 rfl _ _ _) rfl ?_
              exact HBAD.out
          · have HGO := Lib.hid (HX3.out fun i hi => hall i (by rw [HDL.out] at hi; omega))
            have hid : (i : Int) = (d : Int) := by omega
            have hdd : decide ((i : Int) < (d : Int)) = false := decide_eq_false (by omega)
            clear hall
            go_wp2_with fail
            refine bodyPost_ret (results_tmp4 rfl _ _ _) rfl ?_
            exact HGO.out
end Go.Proofs.YtgifbpjmblemhaaGreatDoor
