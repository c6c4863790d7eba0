/- The document's labels: Number, Label. -/
import Derived.Test.YtemngcifeglpmaaDoorLc
import Derived.Test.YtemngcifeglpmaaDoorHp
namespace Go.Proofs.YtemngcifeglpmaaDoor
open Go.RowKit
set_option linter.unusedVariables false
set_option linter.unusedSimpArgs false
def RnAt (m g : Nat) (w : World) (x i : Value) (wr : World) : Prop :=
  ∃ j : Nat, j ≤ 8 ∧ i = .int .i64 (7 - (j : Int)) ∧ x = .int .u64 ((m / 256 ^ j : Nat) : Int) ∧ Arr wr g 5 (bytesV (Da.nbp m j)) ∧ Below w.heap.size w wr
set_option maxRecDepth 100000 in
theorem rnum9_any (n : Int) (w : World) :
    Calls Tryd.prog 14 #[.int .i64 n] w fun e w' => ∃ g, e = .returned (.slice (some ⟨g, 0, none⟩) 8 8) ∧ RowIs w' (some ⟨g, 0, none⟩) (bytesV (Da.num8 n)) 8 ∧ Below w.heap.size w w' := by
  obtain ⟨i0, hi, hz0, hz1, hz2⟩ := info_parts info_u8
  obtain ⟨m, hm⟩ : ∃ m, (n % 18446744073709551616).toNat = m := ⟨_, rfl⟩
  have hwr : IntKind.u64.wrap n = (m : Int) := by rw [IntKind.wrap_u64]; omega
  have hml : m < 18446744073709551616 := by omega
  have HM : Hid (Da.num8 n = Da.nbp m 8) := Lib.hid (by rw [Da.nbp_end, ← hm]; rfl)
  clear hm
  go_enter Tryd.func14, Tryd.ntmps14
  go_wp2_with (at_make; refine wpList_make_full _ rfl _ _ 22 rfl 0 5 i0 (.int .u8 0) 1 Tryd.underlying22 hi hz0 hz1 _ _ _ _ 8 rfl rfl (by omega) (by omega) (by rw [hz2]; omega) (by unfold maxLen; omega) (Nat.zero_le _) ?_)
  intro w1 hown hgrow
  have hb1 : Below w.heap.size w w1 := (Below.refl _ _).grown hgrow (Nat.le_refl _) (fun k h => by cases h)
  obtain ⟨g, hg⟩ : ∃ g, w.heap.size = g := ⟨_, rfl⟩
  rw [hg] at hown
  rw [made_bytes] at hown
  have hA1 := (arr_of_own hown).1
  have HX0 : Hid (RnAt m g w (.int .u64 (m : Int)) (.int .i64 7) w1) := Lib.hid ⟨0, by omega, rfl, by rw [Nat.pow_zero, Nat.div_one], by rw [Da.nbp_zero]; exact hA1, hb1⟩
  have HG := Lib.hid hg
  clear hown hgrow hb1 hA1 hg
  go_wp2_with (first | rw [HG.out])
  go_loopw [4, 5] (fun x i wr => RnAt m g w x i wr) (fun _ i _ => (intOf i + 1).toNat)
  case atStart => exact HX0.out
  case round =>
    obtain ⟨j, hj, rfl, rfl, hA, hB⟩ := hrel
    by_cases hlt : j < 8
    · have hd1 : decide ((7 : Int) - (j : Int) ≥ 0) = true := by simp; omega
      obtain ⟨p, hp⟩ : ∃ p, 7 - j = p := ⟨_, rfl⟩
      obtain ⟨q, hq⟩ : ∃ q, m / 256 ^ j = q := ⟨_, rfl⟩
      have hql : q < 18446744073709551616 := by rw [← hq]; exact Nat.lt_of_le_of_lt (Nat.div_le_self _ _) hml
      have hpi : (7 : Int) - (j : Int) = (p : Int) := by omega
      obtain ⟨y, hy⟩ : ∃ y, (Da.nbp m j).getD p 0 = y := ⟨_, rfl⟩
      have hc : wr.cell? ⟨g, p, none⟩ = some (.int .u8 (y.toNat : Int)) := by rw [hA.cell, ← hy]; exact bytesV_get _ _ (by rw [Da.nbp_length]; omega)
      have hfz := hA.frozen p
      have HA := Lib.hid hA
      have HB := Lib.hid hB
      have HQ := Lib.hid hq
      have HP := Lib.hid hp
      have hpl : p < 8 := by omega
      have ht1 : Int.tmod (q : Int) 256 = ((q % 256 : Nat) : Int) := rfl
      have ht2 : Int.tdiv (q : Int) 256 = ((q / 256 : Nat) : Int) := rfl
      rw [hpi, hq]
      rw [hpi] at hd1
      clear hA hB hq hp hy HX0 hwr
      go_wp2_with fail
      refine ⟨⟨j + 1, by omega, by go_num, by rw [Nat.pow_succ, ← Nat.div_div_eq_div_mul, HQ.out]; rfl, ?_, HA.out.below HB.out (by have := HG.out; omega) _ _⟩, by simp [intOf]⟩
      rw [← Da.nbp_step m j hlt, HP.out, HQ.out, ← bytesV_set', show ((q : Int) % 256) = ((UInt8.ofNat q).toNat : Int) from by rw [UInt8.toNat_ofNat']; omega]
      exact HA.out.set p _
    · obtain rfl : j = 8 := by omega
      have hd1 : decide ((7 : Int) - ((8 : Nat) : Int) ≥ 0) = false := by decide
      have hrow : RowIs wr (some ⟨g, 0, none⟩) (bytesV (Da.num8 n)) 8 := by
        have := hA.row (by rw [Da.nbp_length]; unfold maxLen; decide)
        rw [Da.nbp_length, ← HM.out] at this
        exact this
      have HROW := Lib.hid hrow
      have HB := Lib.hid hB
      clear hA hB hrow HX0 hwr
      go_wp2_with fail
      go_ret
      exact ⟨g, rfl, HROW.out, HB.out⟩
set_option maxRecDepth 100000 in
theorem rlab_any (s : ByteArray) (hl : s.size ≤ 1000000) (w : World) : Calls Tryd.prog 11 #[.string s] w fun e w' => e = .returned (.bool (Da.isLab s.data.toList)) ∧ w' = w := by
  have hsl : s.data.toList.length = s.size := rfl
  obtain ⟨r, hR⟩ : ∃ r, Da.isLab s.data.toList = r := ⟨_, rfl⟩
  have HR := Lib.hid hR
  rw [hR]
  clear hR
  have HX0 : Hid (LlAt s.data.toList w (.int .i64 0) w) := Lib.hid ⟨0, Nat.zero_le _, rfl, fun j hj => absurd hj (by omega), rfl⟩
  go_enter Tryd.func11, Tryd.ntmps11
  go_wp2_with fail
  go_loopw [3] (fun i wr => LlAt s.data.toList w i wr) (fun i _ => s.size - (intOf i).toNat)
  case atStart => exact HX0.out
  case round =>
    obtain ⟨k, hk, rfl, hf, rfl⟩ := hrel
    rw [hsl] at hk
    by_cases hlt : k < s.size
    · have hd3 : decide ((k : Int) < (s.size : Int)) = true := by simpa using hlt
      obtain ⟨c, hc⟩ : ∃ c, s.data.toList.getD k 0 = c := ⟨_, rfl⟩
      have hix := str_at s k c hlt hc
      by_cases h3 : 97 ≤ c.toNat
      · have hd4 : decide ((c.toNat : Int) < 97) = false := by simp; omega
        by_cases h4 : c.toNat ≤ 122
        · have hd5 : decide ((c.toNat : Int) > 122) = false := by simp; omega
          have HX : Hid (LlAt s.data.toList wr (.int .i64 ((k : Int) + 1)) wr) := Lib.hid ⟨k + 1, by omega, by go_num, fun j hj => by
            by_cases e : j = k
            · subst e; rw [hc]; simp [Da.lw, h3, h4]
            · exact hf j (by omega), rfl⟩
          have HF := Lib.hid hf
          clear hc hf
          go_wp2_with fail
          exact ⟨HX.out, by simp [intOf]; omega⟩
        · have hd5 : decide ((c.toNat : Int) > 122) = true := by simp; omega
          have hr : r = false := by
            rw [← HR.out]
            unfold Da.isLab
            rw [Da.not_lw (j := k) hlt (by rw [hc]; simp [Da.lw]; omega)]; simp
          have HRR := Lib.hid hr
          have HF := Lib.hid hf
          clear hc hf hr
          go_wp2_with fail
          go_ret
          exact ⟨by rw [HRR.out]; rfl, rfl⟩
      · have hd4 : decide ((c.toNat : Int) < 97) = true := by simp; omega
        have hr : r = false := by
          rw [← HR.out]
          unfold Da.isLab
          rw [Da.not_lw (j := k) hlt (by rw [hc]; simp [Da.lw]; omega)]; simp
        have HRR := Lib.hid hr
        have HF := Lib.hid hf
        clear hc hf hr
        go_wp2_with fail
        go_ret
        exact ⟨by rw [HRR.out]; rfl, rfl⟩
    · obtain rfl : k = s.size := by omega
      have hr : r = (decide (0 < s.size) && decide (s.size < 13)) := by
        rw [← HR.out]
        unfold Da.isLab
        rw [Da.all_lw hf, hsl, Bool.and_true]
      have HRR := Lib.hid hr
      clear hf hr
      by_cases h1 : 0 < s.size
      · have hd1 : decide ((s.size : Int) > 0) = true := decide_eq_true (by omega)
        by_cases h2 : s.size < 13
        · have hd2 : decide ((s.size : Int) < 13) = true := by simp; omega
          go_wp2_with fail
          go_ret
          exact ⟨by rw [HRR.out, decide_eq_true h1, decide_eq_true h2]; rfl, rfl⟩
        · have hd2 : decide ((s.size : Int) < 13) = false := by simp; omega
          go_wp2_with fail
          go_ret
          exact ⟨by rw [HRR.out, decide_eq_false h2, Bool.and_false]; rfl, rfl⟩
      · have hd1 : decide ((s.size : Int) > 0) = false := decide_eq_false (by omega)
        go_wp2_with fail
        go_ret
        exact ⟨by rw [HRR.out, decide_eq_false h1, Bool.false_and]; rfl, rfl⟩
end Go.Proofs.YtemngcifeglpmaaDoor
