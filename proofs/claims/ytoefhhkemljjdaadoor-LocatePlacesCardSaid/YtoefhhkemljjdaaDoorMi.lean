/- Contract of Inverses. -/
import Derived.Test.YtoefhhkemljjdaaDoorMu
namespace Go.Proofs.YtoefhhkemljjdaaDoor
open Go.RowKit
set_option linter.unusedVariables false
attribute [local go_sem] Oper.semAt_some
set_option maxRecDepth 100000 in
theorem inverses_walk (l : Nat) (I : Nat → World → Prop) (B Bx : World → Prop) (o : Option Addr) (z : List UInt8) (c Q : Nat) (w : World)
    (hI : ∀ i X, I i X → Boxed X Q 26 (.slice o z.length c) ∧ RowIs X o (bytesV z) c)
    (hA : ∀ i X ob, I i X → I i (X.alloc ob)) (hBk : ∀ X X', B X → KeepsOthers X X' → B X')
    (hturn : ∀ i A X, I i X → B X → i < z.length → X.heap[A]? = some (.cells #[.int .u8 1, .int .u8 ((co z i).toNat : Int)] 5 (0, 0)) →
      YieldAt Fence.wide 0 Tryd.prog l #[.slice (some ⟨A, 0, none⟩) 2 2] X fun e X' => (e = .returned (.bool true) ∧ I (i + 1) X' ∧ B X') ∨ (e = .returned (.bool false) ∧ Bx X'))
    (h0 : I 0 w) (hB : B w) :
    Calls Tryd.prog 58 #[.func (.yield l) #[] #[], .pointer (some ⟨Q, 0, none⟩)] w fun e X => (∃ v, e = .returned v) ∧ ((I z.length X ∧ B X) ∨ Bx X) := by
  refine (callsIn_wide (n := 0)).1 (callsIn_of_wp Tryd.func58 rfl trivial ?_ rfl)
  simp only [Tryd.ntmps58, List.size_toArray, List.length_cons, List.length_nil, Nat.reduceAdd, Nat.reduceSub, Array.replicate_succ, Array.replicate_zero, List.push_toArray, List.append_toArray, List.nil_append, List.cons_append]
  have hq := (hI _ _ h0).1.cell
  have hr0 := (hI _ _ h0).2
  have hn : z.length ≤ 9223372036854775807 := by
    have h1 := hr0.le
    have h2 := hr0.cap
    simp only [bytesV_length] at h1
    unfold maxLen at h2
    omega
  clear hr0
  gi_wp2
  gi_loopw [4, 7] (fun _ p wr => ∃ k : Nat, k ≤ z.length ∧ p = .int .i64 (k : Int) ∧ I k wr ∧ B wr) (fun _ p wr => z.length - (intOf p).toNat)
  case atStart => exact ⟨0, Nat.zero_le _, rfl, h0, hB⟩
  case round =>
    obtain ⟨k, hk, rfl, hi, hb⟩ := hrel
    obtain ⟨hq2, hr⟩ := hI _ _ hi
    by_cases hlt : k < z.length
    · have hm := hr.cap
      have hle := hr.le
      simp only [bytesV_length] at hle
      unfold maxLen at hm
      obtain ⟨b1, off1, rfl, hb1, hcell⟩ := hr.cells (by simp; omega)
      have hc1 : wr.cell? ⟨b1, off1 + k, none⟩ = some (.int .u8 ((co z k).toNat : Int)) := hcell k _ (bytesV_get z k (by omega))
      have hx := UInt8.toNat_lt (co z k)
      obtain ⟨fn, tmps, assign, body, hy, hR⟩ := hturn k wr.heap.size (wr.alloc (.cells #[.int .u8 1, .int .u8 ((co z k).toNat : Int)] 5)) (hA _ _ _ hi) (hBk _ _ hb (KeepsOthers.alloc _ _)) hlt (World.alloc_heap_new _ _)
      have HI := Lib.hid hI
      have HT := Lib.hid hturn
      clear hcell hI hturn
      gi_wp2
      refine ⟨rfl, hR.mono ?_⟩
      rintro e W3 (⟨rfl, hi3, hb3⟩ | ⟨rfl, hx3⟩)
      · gi_wp2
        go_roundw
        case rel => exact ⟨k + 1, by omega, by go_num, hi3, hb3⟩
        case measure => simp [intOf]; omega
      · gi_wp2
        refine bodyPost_ret (results_none rfl _ _ _) rfl ?_
        exact ⟨⟨_, rfl⟩, .inr hx3⟩
    · obtain rfl : k = z.length := by omega
      gi_wp2
      go_end0
      exact ⟨⟨_, rfl⟩, .inl ⟨hi, hb⟩⟩
theorem factors_inverses (z : List UInt8) (o : Option Addr) (c Q : Nat) : Factors 58 (fun r => [1, r]) z o c Q :=
  fun l I B Bx w hI hA hBk hturn h0 hB => inverses_walk l I B Bx o z c Q w hI hA hBk (fun i A X a b d e => hturn i A X a b d e) h0 hB
theorem inverses_any (z : List UInt8) (o : Option Addr) (c : Nat) (w : World) (hl : z.length ≤ 1000) (hR : RowIs w o (bytesV z) c) :
    Calls Tryd.prog 37 #[.slice o z.length c] w fun e w' => ∃ g cap, e = .returned (.slice (some ⟨g, 0, none⟩) (tr (prodL (fun r => [1, r]) z z.length)).length cap) ∧ w.heap.size ≤ g ∧ Below w.heap.size w w' ∧ RowIs w' (some ⟨g, 0, none⟩) (bytesV (tr (prodL (fun r => [1, r]) z z.length))) cap := by
  have hmf := @makes Tryd.prog
  have hcal := all_any 58 (fun r => [1, r]) (fun _ => rfl) z o c w.heap.size (w.alloc (.cells #[.slice o z.length c] 26)) (enters_of Tryd.func58 (by kernel_rfl) rfl) (factors_inverses z o c _) hl (Boxed.new w _ _) (hR.later ((Below.refl _ _).alloc (Nat.le_refl _) _))
  have HCAL := Lib.hid hcal
  clear hcal hR
  go_enter Tryd.func37, Tryd.ntmps37
  go_wp2_with fail
  refine HCAL.out.mono ?_; rintro e w1 ⟨g, cap, rfl, hg, hb, hr⟩
  have HB := Lib.hid hb
  have HR := Lib.hid hr
  have hg2 : w.heap.size ≤ g := by simp at hg; omega
  clear hb hr hg HCAL hmf
  go_wp2_with fail
  go_ret
  exact ⟨g, cap, rfl, hg2, ((Below.refl w.heap.size w).alloc (Nat.le_refl _) _).trans (HB.out.mono (by simp)), HR.out⟩
end Go.Proofs.YtoefhhkemljjdaaDoor
