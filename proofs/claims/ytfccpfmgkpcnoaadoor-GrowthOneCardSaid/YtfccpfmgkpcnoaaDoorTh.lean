/- Long; TreeHalves. -/
import Derived.Test.YtfccpfmgkpcnoaaDoorTo
import Derived.Test.YtfccpfmgkpcnoaaDoorStq
namespace Go.Proofs.YtfccpfmgkpcnoaaDoor.Da
theorem dpt_spl {n : Nat} (h : 2 ≤ n) : dpt n = 1 + dpt (spl n) := by
  have e1 : dpt n = (n - 1).log2 + 1 := by unfold dpt; rw [if_neg (by omega)]
  have e2 : spl n = 2 ^ (n - 1).log2 := by unfold spl; rw [if_neg (by omega)]
  rw [e1, e2]
  generalize (n - 1).log2 = j
  cases j with
  | zero => rfl
  | succ j =>
    have hp : 0 < 2 ^ j := Nat.two_pow_pos _
    rw [dpt_only (n := 2 ^ (j + 1)) (d := j + 1) (by rw [Nat.pow_succ]; omega) (Nat.le_refl _) (by rw [Nat.pow_succ]; omega)]
    omega
/-- more leaves than are asked, or longer ones -/
def lng (bs : List (List UInt8)) (m : Nat) : Bool := decide (m < bs.length) || bs.any fun b => decide (200 < b.length)
theorem lng_not {bs : List (List UInt8)} {m : Nat} (h : lng bs m = false) : bs.length ≤ m ∧ ∀ b ∈ bs, b.length ≤ 200 := by
  unfold lng at h
  simp only [Bool.or_eq_false_iff, decide_eq_false_iff_not, List.any_eq_false, decide_eq_true_eq] at h
  exact ⟨by omega, fun b hb => by have := h.2 b hb; omega⟩
theorem lng_at {bs : List (List UInt8)} {m k : Nat} (hk : k < bs.length) (h : 200 < (bi bs k).length) : lng bs m = true := by
  unfold lng
  rw [Bool.or_eq_true]
  right
  rw [List.any_eq_true]
  refine ⟨bs[k], List.getElem_mem hk, ?_⟩
  have e : bi bs k = bs[k] := by simp [bi, hk]
  rw [e] at h
  simpa using h
theorem lng_none {bs : List (List UInt8)} {m : Nat} (h1 : bs.length ≤ m) (h : ∀ i, i < bs.length → (bi bs i).length ≤ 200) : lng bs m = false := by
  unfold lng
  simp only [Bool.or_eq_false_iff, decide_eq_false_iff_not, List.any_eq_false, decide_eq_true_eq]
  refine ⟨by omega, fun b hb => ?_⟩
  obtain ⟨i, hi, rfl⟩ := List.mem_iff_getElem.1 hb
  have := h i hi
  have e : bi bs i = bs[i] := by simp [bi, hi]
  rw [e] at this
  omega
theorem mem_bi {bs : List (List UInt8)} {i : Nat} (hi : i < bs.length) : bi bs i ∈ bs := by
  have e : bi bs i = bs[i] := by simp [bi, hi]
  rw [e]; exact List.getElem_mem hi
theorem len_of {bs : List (List UInt8)} (h : ∀ b ∈ bs, b.length ≤ 200) (N : Nat) (hN : 200 ≤ N) : ∀ i, i < bs.length → (bi bs i).length ≤ N := fun _ hi => Nat.le_trans (h _ (mem_bi hi)) hN
end Go.Proofs.YtfccpfmgkpcnoaaDoor.Da
namespace Go.Proofs.YtfccpfmgkpcnoaaDoor
open Go.RowKit
set_option linter.unusedVariables false
set_option linter.unusedSimpArgs false
theorem dgq_eql (xs ys : List UInt8) (hx : xs.length = 32) (hy : ys.length = 32) (w : World) : (binOp .eql 41 (.agg (bytesV xs).toArray) (.agg (bytesV ys).toArray)).run Tryd.prog w = .ok (.bool (xs == ys)) w :=
  run_eql_bytes w 41 5 32 dg_under Tryd.underlying5 (fun w => by
    obtain ⟨i0, hi, _, hz1, _⟩ := info_parts info_u8
    simp [sizeOf, typeInfo, hi, hz1]) xs ys hx hy
theorem dgq_guard : Tryd.prog.eqGuardType Tryd.prog.depth 41 = false := by kernel_rfl
def LgAt (bs : List (List UInt8)) (w : World) (i : Value) (wr : World) : Prop := ∃ k : Nat, k ≤ bs.length ∧ i = .int .i64 (k : Int) ∧ (∀ i, i < k → (bi bs i).length ≤ 200) ∧ wr = w
set_option maxRecDepth 100000 in
theorem long_any (bs : List (List UInt8)) (o : Option Addr) (n c : Nat) (hn : bs.length = n) (m : Nat) (hm : m ≤ 1000) (w : World) (hR : RbIs w o bs c) :
    Calls Tryd.prog 10 #[.slice o n c, .int .i64 (m : Int)] w fun e w' => e = .returned (.bool (Da.lng bs m)) ∧ w' = w := by
  have hcl := hR.le.1
  have hca := hR.le.2
  rw [hn] at hcl
  unfold maxLen at hca
  have HR := Lib.hid hR
  have HN := Lib.hid hn
  clear hR hn
  by_cases hbig : m < n
  · have hd : decide ((n : Int) > (m : Int)) = true := by simp; omega
    have e : Da.lng bs m = true := by unfold Da.lng; simp [HN.out, hbig]
    rw [e]
    go_enter Tryd.func10, Tryd.ntmps10
    go_wp2_with fail
    go_ret
    exact ⟨rfl, rfl⟩
  have hd : decide ((n : Int) > (m : Int)) = false := by simp; omega
  obtain ⟨B, hB⟩ : ∃ B, Da.lng bs m = B := ⟨_, rfl⟩
  have HBT : Hid (∀ k, k < n → 200 < (bi bs k).length → B = true) := Lib.hid fun k hk h => by rw [← hB]; exact Da.lng_at (by rw [HN.out]; exact hk) h
  have HBF : Hid ((∀ i, i < n → (bi bs i).length ≤ 200) → B = false) := Lib.hid fun h => by rw [← hB]; exact Da.lng_none (by rw [HN.out]; omega) (by rw [HN.out]; exact h)
  rw [hB]
  clear hB
  go_enter Tryd.func10, Tryd.ntmps10
  go_wp2_with fail
  go_loopw [6, 13] (fun _ i wr => LgAt bs w i wr) (fun _ i _ => n - (intOf i).toNat)
  case atStart => exact ⟨0, Nat.zero_le _, rfl, fun i hi => absurd hi (Nat.not_lt_zero _), rfl⟩
  case round =>
    obtain ⟨k, hk, rfl, hall, rfl⟩ := hrel
    rw [HN.out] at hk
    by_cases hlt : k < n
    · obtain ⟨b, off, p, q, rfl, _, hc, hr⟩ := HR.out.cell k (by rw [HN.out]; exact hlt)
      have hr1 := hr.le
      have hr2 := hr.cap
      have HA := Lib.hid hall
      rw [bytesV_length] at hr1
      unfold maxLen at hr2
      obtain ⟨L, hL⟩ : ∃ L, (bi bs k).length = L := ⟨_, rfl⟩
      have HL := Lib.hid hL
      rw [hL] at hc hr1
      have hk0 : (0 : Int) ≤ (k : Int) := by omega
      have hk1 : (k : Int) < (n : Int) := by omega
      clear hr hL hall
      by_cases hlong : 200 < L
      · have hd2 : decide ((L : Int) > 200) = true := by simp; omega
        have e := HBT.out k hlt (by rw [HL.out]; exact hlong)
        subst e
        go_wp2_with fail
        go_ret
        exact ⟨rfl, rfl⟩
      · have hd2 : decide ((L : Int) > 200) = false := by simp; omega
        go_wp2_with fail
        go_roundw
        case rel => exact ⟨k + 1, by have := HN.out; omega, by go_num, fun i hi => by
          by_cases e : i = k
          · rw [e, HL.out]; omega
          · exact HA.out i (by omega), rfl⟩
        case measure => simp [intOf]; omega
    · obtain rfl : k = n := by omega
      have e := HBF.out hall
      subst e
      clear hall
      go_wp2_with fail
      go_ret
      exact ⟨rfl, rfl⟩
end Go.Proofs.YtfccpfmgkpcnoaaDoor
