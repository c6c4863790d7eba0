/- Labels: the plain answers; the code's Master, Label, inRange, Number. -/
import Derived.Test.YtemngcifeglpmaaDoorMac
import Derived.Test.YtemngcifeglpmaaDoorApa
import Derived.Lib.SmallJoins
namespace Go.Proofs.YtemngcifeglpmaaDoor.Da
/-- a number as eight bytes, the high one first -/
def num8 (n : Int) : List UInt8 := be8 (n % 18446744073709551616).toNat
/-- a small letter -/
def lw (c : UInt8) : Bool := decide (97 ≤ c.toNat) && decide (c.toNat ≤ 122)
def isLab (s : List UInt8) : Bool := decide (0 < s.length) && (decide (s.length < 13) && s.all lw)
def isMas (n : Nat) : Bool := decide (16 ≤ n) && decide (n ≤ 64)
def inR (n : Int) : Bool := decide (0 ≤ n) && decide (n ≤ 1099511627776)
def keyL (k s : List UInt8) (n : Int) : List UInt8 := hmac k (s ++ 0 :: num8 n)
theorem num8_length (n : Int) : (num8 n).length = 8 := be8_length _
theorem keyL_length (k s : List UInt8) (n : Int) : (keyL k s n).length = 32 := hmac_length _ _
def nbp (m j : Nat) : List UInt8 := (List.range 8).map fun i => if 7 - i < j then UInt8.ofNat (m / 256 ^ (7 - i)) else 0
theorem nbp_length (m j : Nat) : (nbp m j).length = 8 := by simp [nbp]
theorem nbp_zero (m : Nat) : nbp m 0 = List.replicate 8 0 := by
  refine List.ext_getElem (by simp [nbp]) fun j h1 h2 => ?_
  rw [List.getElem_replicate]; simp only [nbp, List.getElem_map, Nat.not_lt_zero, if_false]
theorem nbp_end (m : Nat) : nbp m 8 = be8 m := by
  unfold nbp be8
  refine List.map_congr_left fun q hq => ?_
  rw [if_pos (by omega)]
theorem nbp_step (m j : Nat) (hj : j < 8) : (nbp m j).set (7 - j) (UInt8.ofNat (m / 256 ^ j)) = nbp m (j + 1) := by
  refine List.ext_getElem (by simp [nbp]) fun i h1 h2 => ?_
  have hi : i < 8 := by simpa [nbp] using h1
  simp only [nbp, List.getElem_set, List.getElem_map, List.getElem_range]
  by_cases e : 7 - j = i
  · rw [if_pos e, if_pos (by omega), show 7 - i = j by omega]
  · rw [if_neg e]
    by_cases e2 : 7 - i < j
    · rw [if_pos e2, if_pos (show 7 - i < j + 1 by omega)]
    · rw [if_neg e2, if_neg (show ¬ 7 - i < j + 1 by omega)]
theorem all_lw {s : List UInt8} (h : ∀ j, j < s.length → lw (s.getD j 0) = true) : s.all lw = true := List.all_eq_true.2 fun x hx => by
  obtain ⟨i, hi, rfl⟩ := List.mem_iff_getElem.1 hx
  have := h i hi
  simpa [List.getD, hi] using this
theorem not_lw {s : List UInt8} {j : Nat} (hj : j < s.length) (h : lw (s.getD j 0) = false) : s.all lw = false := by
  rw [Bool.eq_false_iff]
  intro k
  have := List.all_eq_true.1 k (s.getD j 0) (by simp [hj])
  rw [h] at this
  cases this
end Go.Proofs.YtemngcifeglpmaaDoor.Da
namespace Go.Proofs.YtemngcifeglpmaaDoor
open Go.RowKit
set_option linter.unusedVariables false
set_option linter.unusedSimpArgs false
theorem lmas_any (o : Option Addr) (n c : Nat) (w : World) : Calls Tryd.prog 12 #[.slice o n c] w fun e w' => e = .returned (.bool (Da.isMas n)) ∧ w' = w := by
  by_cases h1 : 16 ≤ n
  · have hd1 : decide ((n : Int) ≥ 16) = true := by simp; omega
    by_cases h2 : n ≤ 64
    · have hd2 : decide ((n : Int) ≤ 64) = true := by simp; omega
      have hr : Da.isMas n = true := by simp [Da.isMas, h1, h2]
      rw [hr]
      go_enter Tryd.func12, Tryd.ntmps12
      go_wp2_with fail
      go_ret
      exact ⟨rfl, rfl⟩
    · have hd2 : decide ((n : Int) ≤ 64) = false := by simp; omega
      have hr : Da.isMas n = false := by simp [Da.isMas, h2]
      rw [hr]
      go_enter Tryd.func12, Tryd.ntmps12
      go_wp2_with fail
      go_ret
      exact ⟨rfl, rfl⟩
  · have hd1 : decide ((n : Int) ≥ 16) = false := by simp; omega
    have hr : Da.isMas n = false := by simp [Da.isMas, h1]
    rw [hr]
    go_enter Tryd.func12, Tryd.ntmps12
    go_wp2_with fail
    go_ret
    exact ⟨rfl, rfl⟩
theorem lran_any (n : Int) (w : World) : Calls Tryd.prog 20 #[.int .i64 n] w fun e w' => e = .returned (.bool (Da.inR n)) ∧ w' = w := by
  by_cases h1 : 0 ≤ n
  · have hd1 : decide (n ≥ 0) = true := by simp; omega
    by_cases h2 : n ≤ 1099511627776
    · have hd2 : decide (n ≤ 1099511627776) = true := by simp; omega
      have hr : Da.inR n = true := by simp [Da.inR, h1, h2]
      rw [hr]
      go_enter Tryd.func20, Tryd.ntmps20
      go_wp2_with fail
      go_ret
      exact ⟨rfl, rfl⟩
    · have hd2 : decide (n ≤ 1099511627776) = false := by simp; omega
      have hr : Da.inR n = false := by simp [Da.inR, h2]
      rw [hr]
      go_enter Tryd.func20, Tryd.ntmps20
      go_wp2_with fail
      go_ret
      exact ⟨rfl, rfl⟩
  · have hd1 : decide (n ≥ 0) = false := by simp; omega
    have hr : Da.inR n = false := by simp [Da.inR, h1]
    rw [hr]
    go_enter Tryd.func20, Tryd.ntmps20
    go_wp2_with fail
    go_ret
    exact ⟨rfl, rfl⟩
/-- a text's byte -/
theorem str_at (s : ByteArray) (i : Nat) (c : UInt8) (hi : i < s.size) (hc : s.data.toList.getD i 0 = c) (W : World) : (Instr.index 9 (.string s) (.int .i64 (i : Int))).run Tryd.prog W = .ok (.int .u8 (c.toNat : Int)) W := by
  rw [run_index_string W 9 s .i64 (i : Int) Tryd.underlying9, dif_pos (by omega)]
  have : s[(i : Int).toNat]'(by omega) = c := by
    rw [← hc]
    have h1 : i < s.data.toList.length := hi
    simp only [List.getD_eq_getElem?_getD, List.getElem?_eq_getElem h1, Option.getD_some]
    rfl
  rw [this]
def LlAt (s : List UInt8) (w : World) (i : Value) (wr : World) : Prop :=
  ∃ k : Nat, k ≤ s.length ∧ i = .int .i64 k ∧ (∀ j, j < k → Da.lw (s.getD j 0) = true) ∧ wr = w
set_option maxRecDepth 100000 in
theorem llab_any (s : ByteArray) (hl : s.size ≤ 1000000) (w : World) : Calls Tryd.prog 10 #[.string s] w fun e w' => e = .returned (.bool (Da.isLab s.data.toList)) ∧ w' = w := by
  have hsl : s.data.toList.length = s.size := rfl
  obtain ⟨r, hR⟩ : ∃ r, Da.isLab s.data.toList = r := ⟨_, rfl⟩
  have HR := Lib.hid hR
  rw [hR]
  clear hR
  by_cases h1 : 0 < s.size
  · have hd1 : decide ((s.size : Int) < 1) = false := by simp; omega
    by_cases h2 : s.size < 13
    · have hd2 : decide ((s.size : Int) > 12) = false := by simp; omega
      have HX0 : Hid (LlAt s.data.toList w (.int .i64 0) w) := Lib.hid ⟨0, Nat.zero_le _, rfl, fun j hj => absurd hj (by omega), rfl⟩
      go_enter Tryd.func10, Tryd.ntmps10
      go_wp2_with fail
      go_loopw [14] (fun i wr => LlAt s.data.toList w i wr) (fun i _ => s.size - (intOf i).toNat)
      case atStart => exact HX0.out
      case round =>
        obtain ⟨k, hk, rfl, hf, rfl⟩ := hrel
        rw [hsl] at hk
        by_cases hlt : k < s.size
        · have hd3 : decide ((k : Int) < (s.size : Int)) = true := by simpa using hlt
          obtain ⟨c, hc⟩ : ∃ c, s.data.toList.getD k 0 = c := ⟨_, rfl⟩
          have hix := str_at s k c hlt hc
          by_cases h3 : 97 ≤ c.toNat
          · have hd4 : decide ((c.toNat : Int) < 97) = false := by simp; omega
            by_cases h4 : c.toNat ≤ 122
            · have hd5 : decide ((c.toNat : Int) > 122) = false := by simp; omega
              have HX : Hid (LlAt s.data.toList wr (.int .i64 ((k : Int) + 1)) wr) := Lib.hid ⟨k + 1, by omega, by go_num, fun j hj => by
                by_cases e : j = k
                · subst e; rw [hc]; simp [Da.lw, h3, h4]
                · exact hf j (by omega), rfl⟩
              have HF := Lib.hid hf
              clear hc hf
              go_wp2_with fail
              exact ⟨HX.out, by simp [intOf]; omega⟩
            · have hd5 : decide ((c.toNat : Int) > 122) = true := by simp; omega
              have hr : r = false := by
                rw [← HR.out]
                unfold Da.isLab
                rw [Da.not_lw (j := k) hlt (by rw [hc]; simp [Da.lw]; omega)]; simp
              have HRR := Lib.hid hr
              have HF := Lib.hid hf
              clear hc hf hr
              go_wp2_with fail
              go_ret
              exact ⟨by rw [HRR.out]; rfl, rfl⟩
          · have hd4 : decide ((c.toNat : Int) < 97) = true := by simp; omega
            have hr : r = false := by
              rw [← HR.out]
              unfold Da.isLab
              rw [Da.not_lw (j := k) hlt (by rw [hc]; simp [Da.lw]; omega)]; simp
            have HRR := Lib.hid hr
            have HF := Lib.hid hf
            clear hc hf hr
            go_wp2_with fail
            go_ret
            exact ⟨by rw [HRR.out]; rfl, rfl⟩
        · obtain rfl : k = s.size := by omega
          have hr : r = true := by
            rw [← HR.out]
            unfold Da.isLab
            rw [Da.all_lw hf, hsl]; simp [h1, h2]
          have HRR := Lib.hid hr
          clear hf hr
          go_wp2_with fail
          go_ret
          exact ⟨by rw [HRR.out]; rfl, rfl⟩
    · have hd2 : decide ((s.size : Int) > 12) = true := by simp; omega
      have hr : r = false := by rw [← HR.out]; simp [Da.isLab, hsl, h2]
      have HRR := Lib.hid hr
      clear hr hsl
      go_enter Tryd.func10, Tryd.ntmps10
      go_wp2_with fail
      go_ret
      exact ⟨by rw [HRR.out]; rfl, rfl⟩
  · have hd1 : decide ((s.size : Int) < 1) = true := by simp; omega
    have hr : r = false := by rw [← HR.out]; simp [Da.isLab, hsl, h1]
    have HRR := Lib.hid hr
    clear hr hsl
    go_enter Tryd.func10, Tryd.ntmps10
    go_wp2_with fail
    go_ret
    exact ⟨by rw [HRR.out]; rfl, rfl⟩
def LnAt (m g : Nat) (w : World) (i l : Value) (wr : World) : Prop :=
  ∃ j : Nat, j ≤ 8 ∧ i = .int .i64 (7 - (j : Int)) ∧ l = .int .u64 ((m / 256 ^ j : Nat) : Int) ∧ Arr wr g 54 (bytesV (Da.nbp m j)) ∧ Below w.heap.size w wr
set_option maxRecDepth 100000 in
theorem lnum_of (Z : Array Value) (hZ : Z = (bytesV (List.replicate 8 0)).toArray) (hzs : ∀ w, Sem.run Tryd.prog (zeroValue 54) w = .ok (.agg Z) w) (n : Int) (w : World) :
    Calls Tryd.prog 13 #[.int .i64 n] w fun e w' => e = .returned (.slice (some ⟨w.heap.size, 0, none⟩) 8 8) ∧ Arr w' w.heap.size 54 (bytesV (Da.num8 n)) ∧ Below w.heap.size w w' := by
  obtain ⟨g, hg⟩ : ∃ g, w.heap.size = g := ⟨_, rfl⟩
  obtain ⟨W1, hW1⟩ : ∃ W1, w.alloc (Obj.cells Z 54) = W1 := ⟨_, rfl⟩
  obtain ⟨m, hm⟩ : ∃ m, (n % 18446744073709551616).toNat = m := ⟨_, rfl⟩
  have hwr : IntKind.u64.wrap n = (m : Int) := by rw [IntKind.wrap_u64]; omega
  have hml : m < 18446744073709551616 := by omega
  have HB1 : Hid (Below w.heap.size w W1) := Lib.hid (by rw [← hW1]; exact (Below.refl _ _).alloc (Nat.le_refl _) _)
  have HX0 : Hid (LnAt m g w (.int .i64 7) (.int .u64 (m : Int)) W1) := Lib.hid ⟨0, by omega, rfl, by rw [Nat.pow_zero, Nat.div_one], by rw [Da.nbp_zero, ← hW1, hZ, ← hg]; exact Arr.made _ _ _, HB1.out⟩
  have HM : Hid (Da.num8 n = Da.nbp m 8) := Lib.hid (by rw [Da.nbp_end, ← hm]; rfl)
  have HW1 := Lib.hid hW1
  have HG := Lib.hid hg
  clear hW1 hm hZ hg
  go_enter Tryd.func13, Tryd.ntmps13
  go_wp2_with (first | rw [HW1.out, HG.out])
  go_loopw [4, 5] (fun i l wr => LnAt m g w i l wr) (fun i _ _ => (intOf i + 1).toNat)
  case atStart => exact HX0.out
  case round =>
    obtain ⟨j, hj, rfl, rfl, hA, hB⟩ := hrel
    by_cases hlt : j < 8
    · have hd1 : decide ((7 : Int) - (j : Int) ≥ 0) = true := by simp; omega
      obtain ⟨p, hp⟩ : ∃ p, 7 - j = p := ⟨_, rfl⟩
      obtain ⟨q, hq⟩ : ∃ q, m / 256 ^ j = q := ⟨_, rfl⟩
      have hql : q < 18446744073709551616 := by rw [← hq]; exact Nat.lt_of_le_of_lt (Nat.div_le_self _ _) hml
      have hpi : (7 : Int) - (j : Int) = (p : Int) := by omega
      obtain ⟨y, hy⟩ : ∃ y, (Da.nbp m j).getD p 0 = y := ⟨_, rfl⟩
      have hc : wr.cell? ⟨g, p, none⟩ = some (.int .u8 (y.toNat : Int)) := by rw [hA.cell, ← hy]; exact bytesV_get _ _ (by rw [Da.nbp_length]; omega)
      have hfz := hA.frozen p
      have HA := Lib.hid hA
      have HB := Lib.hid hB
      have HQ := Lib.hid hq
      have HP := Lib.hid hp
      have hpl : p < 8 := by omega
      rw [hpi, hq]
      rw [hpi] at hd1
      clear hA hB hq hp hy HX0 HB1 HW1 hwr
      go_wp2_with fail
      refine ⟨⟨j + 1, by omega, by go_num, by rw [Nat.pow_succ, ← Nat.div_div_eq_div_mul, HQ.out]; rfl, ?_, HA.out.below HB.out (by have := HG.out; omega) _ _⟩, by simp [intOf]⟩
      rw [← Da.nbp_step m j hlt, HP.out, HQ.out, ← bytesV_set', show ((q : Int) % 256) = ((UInt8.ofNat q).toNat : Int) from by rw [UInt8.toNat_ofNat']; omega]
      exact HA.out.set p _
    · obtain rfl : j = 8 := by omega
      have hd1 : decide ((7 : Int) - ((8 : Nat) : Int) ≥ 0) = false := by decide
      have HA := Lib.hid hA
      have HB := Lib.hid hB
      clear hA hB HX0 HB1 HW1 hwr
      go_wp2_with fail
      go_ret
      exact ⟨by rw [HG.out]; rfl, by rw [HM.out, HG.out]; exact HA.out, HB.out⟩
theorem lnum_any (n : Int) (w : World) :
    Calls Tryd.prog 13 #[.int .i64 n] w fun e w' => e = .returned (.slice (some ⟨w.heap.size, 0, none⟩) 8 8) ∧ Arr w' w.heap.size 54 (bytesV (Da.num8 n)) ∧ Below w.heap.size w w' := lnum_of _ rfl a8_zero n w
end Go.Proofs.YtemngcifeglpmaaDoor
