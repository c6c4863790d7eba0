/- The code's Erasures: which place is beyond, which is there twice. Contract of Inverses. The code's Erasures. -/
import Derived.Test.YtgchfijeiggimaaDoorEs
import Derived.Test.YtgchfijeiggimaaDoorErr
import Derived.Test.YtgchfijeiggimaaDoorMu
import Derived.Test.YtgchfijeiggimaaDoorGn
namespace Go.Proofs.YtgchfijeiggimaaDoor
open Go.RowKit
set_option linter.unusedVariables false
set_option linter.unusedSimpArgs false
theorem beyond_any (p n : Int) (Q : Nat) (w : World) (hq : Boxed w Q 3 (.int .i64 n)) :
    Calls Tryd.prog 71 #[.int .i64 p, .pointer (some ⟨Q, 0, none⟩)] w fun e w' => e = .returned (.bool (decide (p < 0 ∨ n ≤ p))) ∧ w' = w := by
  have hc := hq.cell
  clear hq
  by_cases h0 : p < 0
  · have hd0 : decide (p < 0) = true := decide_eq_true h0
    have HD : Hid (decide (p < 0 ∨ n ≤ p) = true) := Lib.hid (decide_eq_true (.inl h0))
    clear h0
    go_enter Tryd.func71, Tryd.ntmps71
    go_wp2_with fail
    go_ret
    exact ⟨by rw [HD.out]; rfl, rfl⟩
  · have hd0 : decide (p < 0) = false := decide_eq_false h0
    by_cases h1 : n ≤ p
    · have hd1 : decide (n ≤ p) = true := decide_eq_true h1
      have HD : Hid (decide (p < 0 ∨ n ≤ p) = true) := Lib.hid (decide_eq_true (.inr h1))
      clear h0 h1
      go_enter Tryd.func71, Tryd.ntmps71
      go_wp2_with fail
      go_ret
      exact ⟨by rw [HD.out]; rfl, rfl⟩
    · have hd1 : decide (n ≤ p) = false := decide_eq_false h1
      have HD : Hid (decide (p < 0 ∨ n ≤ p) = false) := Lib.hid (decide_eq_false fun h => h.elim h0 h1)
      clear h0 h1
      go_enter Tryd.func71, Tryd.ntmps71
      go_wp2_with fail
      go_ret
      exact ⟨by rw [HD.out]; rfl, rfl⟩
def IxAt (n : Int) (z : List Int) (w : World) (i : Value) (wr : World) : Prop := ∃ k : Nat, k ≤ z.length ∧ i = .int .i64 k ∧ (∀ j, j < k → 0 ≤ ci z j ∧ ci z j < n) ∧ wr = w
def IxTo (n : Int) (z : List Int) (w : World) (e : Ending) (w' : World) : Prop :=
  w' = w ∧ (((∃ k, k < z.length ∧ (ci z k < 0 ∨ n ≤ ci z k)) ∧ ∃ k : Nat, e = .returned (.int .i64 (k : Int))) ∨ ((∀ k, k < z.length → 0 ≤ ci z k ∧ ci z k < n) ∧ e = .returned (.int .i64 (-1))))
theorem ints_cell {z : List Int} {o : Option Addr} {c : Nat} {w : World} (hS : RowIs w o (intsV z) c) (k : Nat) (hk : k < z.length) : ∃ b off, o = some ⟨b, off, none⟩ ∧ w.cell? ⟨b, off + k, none⟩ = some (.int .i64 (ci z k)) := by
  obtain ⟨b, off, rfl, _, hc⟩ := hS.cells (by simp; omega)
  exact ⟨b, off, rfl, hc k _ (by simp [intsV, ci, List.getD_eq_getElem?_getD, hk])⟩
set_option maxRecDepth 100000 in
set_option maxHeartbeats 2000000 in
theorem cindex_any (z : List Int) (n : Int) (Q c : Nat) (o : Option Addr) (w : World) (hS : RowIs w o (intsV z) c) (hq : Boxed w Q 3 (.int .i64 n)) :
    Calls Tryd.prog 81 #[.slice o z.length c, .func (.func 71) #[] #[.pointer (some ⟨Q, 0, none⟩)]] w (IxTo n z w) := by
  have h1 := hS.le
  have h2 := hS.cap
  simp only [intsV_length] at h1
  unfold maxLen at h2
  have HS := Lib.hid hS
  have HQ := Lib.hid hq
  clear hS hq
  go_enter Tryd.func81, Tryd.ntmps81
  go_wp2_with fail
  go_loopw [5, 8] (fun _ i wr => IxAt n z w i wr) (fun _ i _ => z.length - (intOf i).toNat)
  case atStart => exact ⟨0, Nat.zero_le _, rfl, fun j h => absurd h (by omega), rfl⟩
  case round =>
    obtain ⟨k, hk, rfl, hall, rfl⟩ := hrel
    have HALL := Lib.hid hall
    clear hall
    by_cases hlt : k < z.length
    · obtain ⟨b, off, rfl, hcell⟩ := ints_cell HS.out k hlt
      obtain ⟨p, hp⟩ : ∃ p, ci z k = p := ⟨_, rfl⟩
      rw [hp] at hcell
      have HP := Lib.hid hp
      have hk0 : (0 : Int) ≤ (k : Int) := by omega
      have hk1 : (k : Int) < (z.length : Int) := by omega
      have HBY := Lib.hid (beyond_any p n Q wr HQ.out)
      clear hp
      by_cases hb : p < 0 ∨ n ≤ p
      · rw [decide_eq_true hb] at HBY
        have HBB := Lib.hid hb
        clear hb
        go_wp2_with fail
        refine HBY.out.mono ?_; rintro e w2 ⟨rfl, rfl⟩
        go_wp2_with fail
        go_ret
        exact ⟨rfl, .inl ⟨⟨k, hlt, by rw [HP.out]; exact HBB.out⟩, k, rfl⟩⟩
      · rw [decide_eq_false hb] at HBY
        have HBB := Lib.hid hb
        clear hb
        go_wp2_with fail
        refine HBY.out.mono ?_; rintro e w2 ⟨rfl, rfl⟩
        go_wp2_with fail
        go_roundw
        case rel =>
          refine ⟨k + 1, by omega, by go_num, fun j hj => ?_, rfl⟩
          by_cases e : j = k
          · rw [e, HP.out]; have := HBB.out; omega
          · exact HALL.out j (by omega)
        case measure => simp [intOf]; omega
    · obtain rfl : k = z.length := by omega
      go_wp2_with fail
      go_ret
      exact ⟨rfl, .inr ⟨HALL.out, rfl⟩⟩
def CtTo (n : Int) (z : List Int) (w : World) (e : Ending) (w' : World) : Prop :=
  w' = w ∧ (((∃ k, k < z.length ∧ (ci z k < 0 ∨ n ≤ ci z k)) ∧ e = .returned (.bool true)) ∨ ((∀ k, k < z.length → 0 ≤ ci z k ∧ ci z k < n) ∧ e = .returned (.bool false)))
theorem ccontains_any (z : List Int) (n : Int) (Q c : Nat) (o : Option Addr) (w : World) (hS : RowIs w o (intsV z) c) (hq : Boxed w Q 3 (.int .i64 n)) :
    Calls Tryd.prog 72 #[.slice o z.length c, .func (.func 71) #[] #[.pointer (some ⟨Q, 0, none⟩)]] w (CtTo n z w) := by
  have HI := Lib.hid (cindex_any z n Q c o w hS hq)
  clear hS hq
  go_enter Tryd.func72, Tryd.ntmps72
  go_wp2_with fail
  refine HI.out.mono ?_; rintro e w2 ⟨rfl, ⟨h, k, rfl⟩ | ⟨h, rfl⟩⟩
  · have hk : (0 : Int) ≤ (k : Int) := by omega
    have H := Lib.hid h
    clear h
    go_wp2_with fail
    go_ret
    exact ⟨rfl, .inl ⟨H.out, rfl⟩⟩
  · have H := Lib.hid h
    clear h
    go_wp2_with fail
    go_ret
    exact ⟨rfl, .inr ⟨H.out, rfl⟩⟩
def zb : Array Value := Array.replicate 255 (.bool false)
theorem zero_bools (w : World) : Sem.run Tryd.prog (zeroValue 124) w = .ok (.agg zb) w := by kernel_rfl
/-- which places have been seen -/
def Seen (z : List Int) (k : Nat) (D : Array Value) : Prop := D.size = 255 ∧ ∀ p, p < 255 → D[p]? = some (.bool (decide (∃ j, j < k ∧ ci z j = (p : Int))))
def DbAt (z : List Int) (w : World) (i : Value) (wr : World) : Prop := ∃ (k : Nat) (D : Array Value), k ≤ z.length ∧ i = .int .i64 k ∧ Seen z k D ∧ (∀ a b, b < a → a < k → ci z a ≠ ci z b) ∧ wr = w.alloc (.cells D 124)
def DbTo (z : List Int) (w : World) (e : Ending) (w' : World) : Prop :=
  Below w.heap.size w w' ∧ (((∃ i j, j < i ∧ i < z.length ∧ ci z i = ci z j) ∧ e = .returned (.bool true)) ∨ ((∀ i j, j < i → i < z.length → ci z i ≠ ci z j) ∧ e = .returned (.bool false)))
theorem Seen.step {z : List Int} {k p : Nat} {D : Array Value} (h : Seen z k D) (hp : ci z k = (p : Int)) (hp2 : p < 255) : Seen z (k + 1) (D.setIfInBounds p (.bool true)) := by
  refine ⟨by simp [h.1], fun q hq => ?_⟩
  simp only [Array.getElem?_setIfInBounds]
  by_cases e : p = q
  · subst e
    rw [if_pos rfl, if_pos (by rw [h.1]; exact hq)]
    congr 2
    exact (decide_eq_true ⟨k, by omega, hp⟩).symm
  · rw [if_neg e, h.2 q hq]
    congr 2
    refine decide_eq_decide.2 ⟨fun ⟨j, h1, h2⟩ => ⟨j, by omega, h2⟩, fun ⟨j, h1, h2⟩ => ⟨j, ?_, h2⟩⟩
    by_cases ej : j = k
    · rw [ej, hp] at h2
      omega
    · omega
set_option maxRecDepth 100000 in
set_option maxHeartbeats 2000000 in
theorem doubled_of (Z : Array Value) (hz : ∀ w, Sem.run Tryd.prog (zeroValue 124) w = .ok (.agg Z) w) (z : List Int) (hZ : Seen z 0 Z) (n c : Nat) (o : Option Addr) (w : World) (hS : RowIs w o (intsV z) c) (hn : n ≤ 255) (hin : ∀ k, k < z.length → 0 ≤ ci z k ∧ ci z k < n) :
    Calls Tryd.prog 73 #[.slice o z.length c] w (DbTo z w) := by
  have h1 := hS.le
  have h2 := hS.cap
  simp only [intsV_length] at h1
  unfold maxLen at h2
  have HS := Lib.hid hS
  have HZ := Lib.hid hZ
  have HIN := Lib.hid hin
  clear hS hZ hin
  go_enter Tryd.func73, Tryd.ntmps73
  go_wp2_with fail
  clear hz
  go_loopw [5, 8] (fun _ i wr => DbAt z w i wr) (fun _ i _ => z.length - (intOf i).toNat)
  case atStart => exact ⟨0, Z, Nat.zero_le _, rfl, HZ.out, fun a b _ h => absurd h (by omega), rfl⟩
  case round =>
    obtain ⟨k, D, hk, rfl, hD, hdis, rfl⟩ := hrel
    have HDIS := Lib.hid hdis
    have HD := Lib.hid hD
    by_cases hlt : k < z.length
    · obtain ⟨b, off, rfl, hcell⟩ := ints_cell (HS.out.later ((Below.refl _ _).alloc (Nat.le_refl _) (.cells D 124))) k hlt
      have hpn := HIN.out k hlt
      obtain ⟨p, hp⟩ := Int.eq_ofNat_of_zero_le hpn.1
      rw [hp] at hcell hpn
      have hp255 : p < 255 := by omega
      have hDp := hD.2 p hp255
      have HP := Lib.hid hp
      have hk0 : (0 : Int) ≤ (k : Int) := by omega
      have hk1 : (k : Int) < (z.length : Int) := by omega
      have hp0 : (0 : Int) ≤ (p : Int) := by omega
      have hp1 : (p : Int) < 255 := by omega
      have HPN : Hid (p < 255) := Lib.hid hp255
      by_cases hs : ∃ j, j < k ∧ ci z j = (p : Int)
      · rw [decide_eq_true hs] at hDp
        have HSS := Lib.hid hs
        clear hs hp hdis hD hpn
        go_wp2_with fail
        go_ret
        obtain ⟨j, hj, hjp⟩ := HSS.out
        exact ⟨(Below.refl _ _).alloc (Nat.le_refl _) _, .inl ⟨⟨k, j, hj, hlt, by rw [hjp, HP.out]⟩, rfl⟩⟩
      · rw [decide_eq_false hs] at hDp
        have HSS := Lib.hid hs
        clear hs hp hdis hD hpn
        go_wp2_with fail
        go_roundw
        case rel =>
          refine ⟨k + 1, D.setIfInBounds p (.bool true), by omega, by go_num, HD.out.step HP.out HPN.out, fun a b hb ha => ?_, rfl⟩
          by_cases e : a = k
          · rw [e] at hb ⊢
            intro h
            exact HSS.out ⟨b, hb, by rw [← h, HP.out]⟩
          · exact HDIS.out a b hb (by omega)
        case measure => simp [intOf]; omega
    · obtain rfl : k = z.length := by omega
      clear hD
      go_wp2_with fail
      go_ret
      exact ⟨(Below.refl _ _).alloc (Nat.le_refl _) _, .inr ⟨fun i j h1 h2 => HDIS.out i j h1 h2, rfl⟩⟩
theorem doubled_any (z : List Int) (n c : Nat) (o : Option Addr) (w : World) (hS : RowIs w o (intsV z) c) (hn : n ≤ 255) (hin : ∀ k, k < z.length → 0 ≤ ci z k ∧ ci z k < n) :
    Calls Tryd.prog 73 #[.slice o z.length c] w (DbTo z w) := by
  refine doubled_of zb zero_bools z ⟨by simp [zb], fun p hp => ?_⟩ n c o w hS hn hin
  rw [decide_eq_false (fun ⟨j, hj, _⟩ => absurd hj (by omega))]
  simp [zb, hp]
end Go.Proofs.YtgchfijeiggimaaDoor
namespace Go.Proofs.YtgchfijeiggimaaDoor
open Go.RowKit
set_option linter.unusedVariables false
attribute [local go_sem] Oper.semAt_some
set_option maxRecDepth 100000 in
theorem inverses_walk (l : Nat) (I : Nat → World → Prop) (B Bx : World → Prop) (o : Option Addr) (z : List UInt8) (c Q : Nat) (w : World)
    (hI : ∀ i X, I i X → Boxed X Q 22 (.slice o z.length c) ∧ RowIs X o (bytesV z) c)
    (hA : ∀ i X ob, I i X → I i (X.alloc ob)) (hBk : ∀ X X', B X → KeepsOthers X X' → B X')
    (hturn : ∀ i A X, I i X → B X → i < z.length → X.heap[A]? = some (.cells #[.int .u8 1, .int .u8 ((co z i).toNat : Int)] 5 (0, 0)) →
      YieldAt Fence.wide 0 Tryd.prog l #[.slice (some ⟨A, 0, none⟩) 2 2] X fun e X' => (e = .returned (.bool true) ∧ I (i + 1) X' ∧ B X') ∨ (e = .returned (.bool false) ∧ Bx X'))
    (h0 : I 0 w) (hB : B w) :
    Calls Tryd.prog 82 #[.func (.yield l) #[] #[], .pointer (some ⟨Q, 0, none⟩)] w fun e X => (∃ v, e = .returned v) ∧ ((I z.length X ∧ B X) ∨ Bx X) := by
  refine (callsIn_wide (n := 0)).1 (callsIn_of_wp Tryd.func82 rfl trivial ?_ rfl)
  simp only [Tryd.ntmps82, List.size_toArray, List.length_cons, List.length_nil, Nat.reduceAdd, Nat.reduceSub, Array.replicate_succ, Array.replicate_zero, List.push_toArray, List.append_toArray, List.nil_append, List.cons_append]
  have hq := (hI _ _ h0).1.cell
  have hr0 := (hI _ _ h0).2
  have hn : z.length ≤ 9223372036854775807 := by
    have h1 := hr0.le
    have h2 := hr0.cap
    simp only [bytesV_length] at h1
    unfold maxLen at h2
    omega
  clear hr0
  gi_wp2
  gi_loopw [4, 7] (fun _ p wr => ∃ k : Nat, k ≤ z.length ∧ p = .int .i64 (k : Int) ∧ I k wr ∧ B wr) (fun _ p wr => z.length - (intOf p).toNat)
  case atStart => exact ⟨0, Nat.zero_le _, rfl, h0, hB⟩
  case round =>
    obtain ⟨k, hk, rfl, hi, hb⟩ := hrel
    obtain ⟨hq2, hr⟩ := hI _ _ hi
    by_cases hlt : k < z.length
    · have hm := hr.cap
      have hle := hr.le
      simp only [bytesV_length] at hle
      unfold maxLen at hm
      obtain ⟨b1, off1, rfl, hb1, hcell⟩ := hr.cells (by simp; omega)
      have hc1 : wr.cell? ⟨b1, off1 + k, none⟩ = some (.int .u8 ((co z k).toNat : Int)) := hcell k _ (bytesV_get z k (by omega))
      have hx := UInt8.toNat_lt (co z k)
      obtain ⟨fn, tmps, assign, body, hy, hR⟩ := hturn k wr.heap.size (wr.alloc (.cells #[.int .u8 1, .int .u8 ((co z k).toNat : Int)] 5)) (hA _ _ _ hi) (hBk _ _ hb (KeepsOthers.alloc _ _)) hlt (World.alloc_heap_new _ _)
      have HI := Lib.hid hI
      have HT := Lib.hid hturn
      clear hcell hI hturn
      gi_wp2
      refine ⟨rfl, hR.mono ?_⟩
      rintro e W3 (⟨rfl, hi3, hb3⟩ | ⟨rfl, hx3⟩)
      · gi_wp2
        go_roundw
        case rel => exact ⟨k + 1, by omega, by go_num, hi3, hb3⟩
        case measure => simp [intOf]; omega
      · gi_wp2
        refine bodyPost_ret (results_none rfl _ _ _) rfl ?_
        exact ⟨⟨_, rfl⟩, .inr hx3⟩
    · obtain rfl : k = z.length := by omega
      gi_wp2
      go_end0
      exact ⟨⟨_, rfl⟩, .inl ⟨hi, hb⟩⟩
theorem factors_inverses (z : List UInt8) (o : Option Addr) (c Q : Nat) : Factors 82 (fun r => [1, r]) z o c Q :=
  fun l I B Bx w hI hA hBk hturn h0 hB => inverses_walk l I B Bx o z c Q w hI hA hBk (fun i A X a b d e => hturn i A X a b d e) h0 hB
theorem inverses_any (z : List UInt8) (o : Option Addr) (c : Nat) (w : World) (hl : z.length ≤ 1000) (hR : RowIs w o (bytesV z) c) :
    Calls Tryd.prog 74 #[.slice o z.length c] w fun e w' => ∃ g cap, e = .returned (.slice (some ⟨g, 0, none⟩) (tr (prodL (fun r => [1, r]) z z.length)).length cap) ∧ w.heap.size ≤ g ∧ Below w.heap.size w w' ∧ RowIs w' (some ⟨g, 0, none⟩) (bytesV (tr (prodL (fun r => [1, r]) z z.length))) cap := by
  have hmf := @makes Tryd.prog
  have hcal := all_any 82 (fun r => [1, r]) (fun _ => rfl) z o c w.heap.size (w.alloc (.cells #[.slice o z.length c] 22)) (enters_of Tryd.func82 (by kernel_rfl) rfl) (factors_inverses z o c _) hl (Boxed.new w _ _) (hR.later ((Below.refl _ _).alloc (Nat.le_refl _) _))
  have HCAL := Lib.hid hcal
  clear hcal hR
  go_enter Tryd.func74, Tryd.ntmps74
  go_wp2_with fail
  refine HCAL.out.mono ?_; rintro e w1 ⟨g, cap, rfl, hg, hb, hr⟩
  have HB := Lib.hid hb
  have HR := Lib.hid hr
  have hg2 : w.heap.size ≤ g := by simp at hg; omega
  clear hb hr hg HCAL hmf
  go_wp2_with fail
  go_ret
  exact ⟨g, cap, rfl, hg2, ((Below.refl w.heap.size w).alloc (Nat.le_refl _) _).trans (HB.out.mono (by simp)), HR.out⟩
end Go.Proofs.YtgchfijeiggimaaDoor
namespace Go.Proofs.YtgchfijeiggimaaDoor
open Go.RowKit
set_option linter.unusedVariables false
set_option linter.unusedSimpArgs false
/-- these places may be erased -/
def EOk (n : Nat) (z : List Int) : Prop := (∀ k, k < z.length → 0 ≤ ci z k ∧ ci z k < n) ∧ (∀ i j, j < i → i < z.length → ci z i ≠ ci z j) ∧ z.length ≤ 32
def er_v (A : Nat → Addr) (k : Nat) : Ending := .returned (.tuple #[.slice none 0 0, .iface 128 (.pointer (some (A k)))])
def CErTo (n : Nat) (z : List Int) (A : Nat → Addr) (w : World) (e : Ending) (w' : World) : Prop :=
  Below w.heap.size w w' ∧ (((∃ k, k < z.length ∧ (ci z k < 0 ∨ (n : Int) ≤ ci z k)) ∧ e = er_v A 0) ∨
    ((∀ k, k < z.length → 0 ≤ ci z k ∧ ci z k < n) ∧ (((∃ i j, j < i ∧ i < z.length ∧ ci z i = ci z j) ∧ e = er_v A 9) ∨
      ((∀ i j, j < i → i < z.length → ci z i ≠ ci z j) ∧ ((32 < z.length ∧ e = er_v A 15) ∨
        (z.length ≤ 32 ∧ ∃ x, e = .returned (.tuple #[x, .nilIface]) ∧ RowV (tr (prodL (fun r => [1, r]) (xsL n z) z.length)) x w'))))))
theorem errs_drew {w : World} {A : Nat → Addr} (h : Er.Six w A) : Er.Six w.drew A := h.later (Kit.dn' w 1)
set_option maxRecDepth 100000 in
set_option maxHeartbeats 2000000 in
theorem cer_size (m c : Nat) (o : Option Addr) (n : Int) (w : World) (A : Nat → Addr) (hE : Er.Six w A) (h : ¬ (33 ≤ n ∧ n ≤ 255)) :
    Calls Tryd.prog 48 #[.int .i64 n, .slice o m c] w fun e w' => e = er_v A 7 ∧ Below w.heap.size w w' := by
  have hE1 := (hE.later ((Below.refl _ _).alloc (Nat.le_refl _) (.cells #[.int .i64 n] 3))).c7
  by_cases h1 : n ≤ 32
  · have hd1 : decide (n ≤ 32) = true := decide_eq_true h1
    clear hE h h1
    go_enter Tryd.func48, Tryd.ntmps48
    go_wp2_with fail
    go_quiet (fail)
    go_wp2
    go_ret2
    exact ⟨rfl, ((Below.refl _ _).alloc (Nat.le_refl _) _).trans ⟨rfl, rfl, rfl, Nat.le_refl _, fun _ _ => rfl⟩⟩
  · have hd1 : decide (n ≤ 32) = false := decide_eq_false h1
    have hd2 : decide (255 < n) = true := decide_eq_true (by omega)
    clear hE h h1
    go_enter Tryd.func48, Tryd.ntmps48
    go_wp2_with fail
    go_quiet (fail)
    go_wp2
    go_ret2
    exact ⟨rfl, ((Below.refl _ _).alloc (Nat.le_refl _) _).trans ⟨rfl, rfl, rfl, Nat.le_refl _, fun _ _ => rfl⟩⟩
def CeAt (n : Nat) (z : List Int) (w w2 : World) (v i : Value) (wr : World) : Prop :=
  ∃ k : Nat, k ≤ z.length ∧ i = .int .i64 k ∧ wr.ownsRow w2.heap.size 5 1 v k (bytesV ((xsL n z).take k)) ∧ Below w2.heap.size w2 wr
set_option maxRecDepth 100000 in
set_option maxHeartbeats 4000000 in
theorem cer_any (z : List Int) (n c : Nat) (o : Option Addr) (w : World) (A : Nat → Addr) (hS : RowIs w o (intsV z) c) (hn1 : 33 ≤ n) (hn2 : n ≤ 255) (hl : z.length ≤ 900) (hE : ¬ EOk n z → Er.Six w A) :
    Calls Tryd.prog 48 #[.int .i64 n, .slice o z.length c] w (CErTo n z A w) := by
  have h1 := hS.le
  have h2 := hS.cap
  simp only [intsV_length] at h1
  unfold maxLen at h2
  obtain ⟨w1, hw1⟩ : ∃ w1, w.alloc (.cells #[.int .i64 (n : Int)] 3) = w1 := ⟨_, rfl⟩
  have hb1 : Below w.heap.size w w1 := by rw [← hw1]; exact (Below.refl _ _).alloc (Nat.le_refl _) _
  have hq1 : Boxed w1 w.heap.size 3 (.int .i64 (n : Int)) := by rw [← hw1]; exact Boxed.new w _ _
  have hS1 := hS.later hb1
  have hcc := ccontains_any z n w.heap.size c o w1 hS1 hq1
  rw [← hw1] at hcc
  have HCC := Lib.hid hcc
  have HB1 := Lib.hid hb1
  have HQ1 := Lib.hid hq1
  have HS1 := Lib.hid hS1
  have HW1 := Lib.hid hw1
  have HE : Hid (¬ EOk n z → Er.Six w1 A) := Lib.hid fun h => (hE h).later hb1
  have hd1 : decide ((n : Int) ≤ 32) = false := decide_eq_false (by omega)
  have hd2 : decide (255 < (n : Int)) = false := decide_eq_false (by omega)
  clear hS hE hb1 hq1 hS1 hcc hw1
  go_enter Tryd.func48, Tryd.ntmps48
  go_wp2_with fail
  refine HCC.out.mono ?_; rintro e w2 ⟨he, hx⟩
  rw [HW1.out] at he
  subst he
  rcases hx with ⟨hbad, rfl⟩ | ⟨hin, rfl⟩
  · have hE0 := (HE.out (fun h => by obtain ⟨k, hk, hb⟩ := hbad; have := h.1 k hk; omega)).c0
    have HBAD := Lib.hid hbad
    clear hbad
    go_wp2_with fail
    go_quiet (fail)
    go_wp2
    go_ret2
    exact ⟨HB1.out.trans ⟨rfl, rfl, rfl, Nat.le_refl _, fun _ _ => rfl⟩, .inl ⟨HBAD.out, rfl⟩⟩
  · have HIN := Lib.hid hin
    have HDB := Lib.hid (doubled_any z n c o w2 HS1.out hn2 hin)
    clear hin
    go_wp2_with fail
    refine HDB.out.mono ?_; rintro e w3 ⟨hb3, ⟨hdup, rfl⟩ | ⟨hdis, rfl⟩⟩
    · have hE9 := ((HE.out (fun h => by obtain ⟨i, j, h1, h2, h3⟩ := hdup; exact h.2.1 i j h1 h2 h3)).later hb3).c9
      have HDUP := Lib.hid hdup
      have HB3 := Lib.hid (Kit.step HB1.out hb3)
      clear hdup hb3
      go_wp2_with fail
      go_quiet (fail)
      go_wp2
      go_ret2
      exact ⟨HB3.out.trans ⟨rfl, rfl, rfl, Nat.le_refl _, fun _ _ => rfl⟩, .inr ⟨HIN.out, .inl ⟨HDUP.out, rfl⟩⟩⟩
    · have HDIS := Lib.hid hdis
      have HB3 := Lib.hid (Kit.step HB1.out hb3)
      have HS3 := Lib.hid (HS1.out.later hb3)
      have HQ3 := Lib.hid (boxed_later HQ1.out hb3)
      by_cases h32 : 32 < z.length
      · have hd32 : decide ((32 : Int) < (z.length : Int)) = true := decide_eq_true (by omega)
        have hE15 := ((HE.out (fun h => by have := h.2.2; omega)).later hb3).c15
        clear hdis hb3
        go_wp2_with fail
        go_quiet (fail)
        go_wp2
        go_ret2
        exact ⟨HB3.out.trans ⟨rfl, rfl, rfl, Nat.le_refl _, fun _ _ => rfl⟩, .inr ⟨HIN.out, .inr ⟨HDIS.out, .inl ⟨h32, rfl⟩⟩⟩⟩
      · have hd32 : decide ((32 : Int) < (z.length : Int)) = false := decide_eq_false (by omega)
        clear hdis hb3
        go_wp2_with fail
        go_loopw [7, 9, 35] (fun v _ i wr => CeAt n z w w3 v i wr) (fun _ _ i _ => z.length - (intOf i).toNat)
        case atStart => exact ⟨0, Nat.zero_le _, rfl, World.ownsRow_nil _ _ _ _, Below.refl _ _⟩
        case round =>
          obtain ⟨k, hk, rfl, hv, hb⟩ := hrel
          have HV := Lib.hid hv
          have HB := Lib.hid hb
          by_cases hlt : k < z.length
          · obtain ⟨b, off, rfl, hcell⟩ := ints_cell (HS3.out.later hb) k hlt
            have hin := HIN.out k hlt
            have hcx := co_xsL n z k hlt
            obtain ⟨p, hp⟩ := Int.eq_ofNat_of_zero_le hin.1
            rw [hp] at hcell hin hcx
            have HPW : Hid (∀ v, Calls Tryd.prog 32 #[.int .i64 (n : Int), .int .i64 (p : Int)] v fun e w' => e = .returned (.int .u8 ((co (xsL n z) k).toNat : Int)) ∧ w' = v) := Lib.hid fun v => by
              have := cpower_any (n : Int) (p : Int) v
              rwa [pwv, if_pos ⟨by omega, by omega, by omega, by omega⟩, show ((n : Int) - 1 - (p : Int)).toNat = n - 1 - p by omega, ← (show co (xsL n z) k = Gf.al (n - 1 - p) from hcx)] at this
            have HTS : Hid ((xsL n z).take k ++ [co (xsL n z) k] = (xsL n z).take (k + 1)) := Lib.hid (take_step (xsL n z) k (by simp [xsL]; omega)).symm
            obtain ⟨x, hx⟩ : ∃ x, co (xsL n z) k = x := ⟨_, rfl⟩
            rw [hx] at HPW HTS
            have hxl := UInt8.toNat_lt x
            have hqn := (boxed_later HQ3.out hb).cell
            have hk0 : (0 : Int) ≤ (k : Int) := by omega
            have hk1 : (k : Int) < (z.length : Int) := by omega
            have HV2 := Lib.hid (World.ownsRow.alloc HV.out (.cells (bytesV [x]).toArray 5))
            have HB2' := Lib.hid (HB.out.alloc HB.out.size (.cells (bytesV [x]).toArray 5))
            clear hp hin hcx hx hv hb
            go_wp2_with fail
            refine (HPW.out _).mono ?_; rintro e w' ⟨rfl, rfl⟩
            go_wp2_with (at_builtin; refine append_row rfl (.tmp 39) (.tmp 43) rfl w3.heap.size _ k ((xsL n z).take k) rfl HV2.out _ 1 1 [x] rfl rfl (row_cells (World.alloc_heap_new _ _) (by unfold maxLen; simp)) (by omega) HB2'.out.size ?_)
            intro v' w' hv hg
            rw [HTS.out] at hv
            have HV3 := Lib.hid hv
            have HB3' := Lib.hid (own_below (n := 0) HB2'.out HV2.out hg)
            clear hv hg
            go_wp2
            go_roundw
            case rel => exact ⟨k + 1, by omega, by go_num, HV3.out, HB3'.out⟩
            case measure => simp [intOf]; omega
          · obtain rfl : k = z.length := by omega
            have hfull : (xsL n z).take z.length = xsL n z := List.take_of_length_le (by simp [xsL])
            have hxl : (xsL n z).length = z.length := by simp [xsL]
            obtain ⟨o3, c3, rfl, hr⟩ := owns_rv HV.out (by simp [xsL])
            rw [hfull] at hr
            have hi := inverses_any (xsL n z) o3 c3 wr (by rw [hxl]; omega) hr
            rw [hxl] at hi
            have HI := Lib.hid hi
            have HBW := Lib.hid (Kit.step HB3.out hb)
            have HLEN : Hid (((xsL n z).take z.length).length = z.length) := Lib.hid (by rw [hfull, hxl])
            clear hi hr hv hb hfull
            rw [HLEN.out]
            go_wp2_with fail
            refine HI.out.mono ?_; rintro e w4 ⟨g, cap, rfl, hg, hb4, hr4⟩
            have HB4 := Lib.hid (Kit.step HBW.out hb4)
            have HR4 := Lib.hid hr4
            clear hg hb4 hr4 HI
            go_wp2_with fail
            go_ret2
            exact ⟨HB4.out, .inr ⟨HIN.out, .inr ⟨HDIS.out, .inr ⟨by omega, _, rfl, ⟨_, _, rfl, HR4.out⟩⟩⟩⟩⟩
end Go.Proofs.YtgchfijeiggimaaDoor
