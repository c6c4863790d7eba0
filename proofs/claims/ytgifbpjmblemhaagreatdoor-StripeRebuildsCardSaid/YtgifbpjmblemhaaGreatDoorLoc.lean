/- The code's Erasures: which place is beyond, which is there twice. Contract of Inverses. The code's Erasures. The document's forney syndromes. The code's Forney. The code's Find. The answer of law04 to its example. What the code and the document answer of the same erased places: the same error, or both the locator. What the register of a changed word is: the changed places that aren't erased; the errata locator's roots; the evaluator's degree. -/
import Derived.Test.YtgifbpjmblemhaaGreatDoorIns
import Derived.Test.YtgifbpjmblemhaaGreatDoorErr
import Derived.Test.YtgifbpjmblemhaaGreatDoorMu
import Derived.Test.YtgifbpjmblemhaaGreatDoorGn
import Derived.Test.YtgifbpjmblemhaaGreatDoorRr
import Derived.Test.YtgifbpjmblemhaaGreatDoorGf
import Derived.Test.YtgifbpjmblemhaaGreatDoorOf
import Derived.Test.YtgifbpjmblemhaaGreatDoorRme
import Derived.Test.YtgifbpjmblemhaaGreatDoorPy
import Derived.Test.YtgifbpjmblemhaaGreatDoorTs
import Derived.BigRegion
namespace Go.Proofs.YtgifbpjmblemhaaGreatDoor
open Go.RowKit
set_option linter.unusedVariables false
set_option linter.unusedSimpArgs false
theorem beyond_any (p n : Int) (Q : Nat) (w : World) (hq : Boxed w Q 3 (.int .i64 n)) :
    Calls Tryz.prog 70 #[.int .i64 p, .pointer (some ⟨Q, 0, none⟩)] w fun e w' => e = .returned (.bool (decide (p < 0 ∨ n ≤ p))) ∧ w' = w := by
  have hc := hq.cell
  clear hq
  by_cases h0 : p < 0
  · have hd0 : decide (p < 0) = true := decide_eq_true h0
    have HD : Hid (decide (p < 0 ∨ n ≤ p) = true) := Lib.hid (decide_eq_true (.inl h0))
    clear h0
    go_enter Tryz.func70, Tryz.ntmps70
    go_wp2_with fail
    go_ret
    exact ⟨by rw [HD.out]; rfl, rfl⟩
  · have hd0 : decide (p < 0) = false := decide_eq_false h0
    by_cases h1 : n ≤ p
    · have hd1 : decide (n ≤ p) = true := decide_eq_true h1
      have HD : Hid (decide (p < 0 ∨ n ≤ p) = true) := Lib.hid (decide_eq_true (.inr h1))
      clear h0 h1
      go_enter Tryz.func70, Tryz.ntmps70
      go_wp2_with fail
      go_ret
      exact ⟨by rw [HD.out]; rfl, rfl⟩
    · have hd1 : decide (n ≤ p) = false := decide_eq_false h1
      have HD : Hid (decide (p < 0 ∨ n ≤ p) = false) := Lib.hid (decide_eq_false fun h => h.elim h0 h1)
      clear h0 h1
      go_enter Tryz.func70, Tryz.ntmps70
      go_wp2_with fail
      go_ret
      exact ⟨by rw [HD.out]; rfl, rfl⟩
def IxAt (n : Int) (z : List Int) (w : World) (i : Value) (wr : World) : Prop := ∃ k : Nat, k ≤ z.length ∧ i = .int .i64 k ∧ (∀ j, j < k → 0 ≤ ci z j ∧ ci z j < n) ∧ wr = w
def IxTo (n : Int) (z : List Int) (w : World) (e : Ending) (w' : World) : Prop :=
  w' = w ∧ (((∃ k, k < z.length ∧ (ci z k < 0 ∨ n ≤ ci z k)) ∧ ∃ k : Nat, e = .returned (.int .i64 (k : Int))) ∨ ((∀ k, k < z.length → 0 ≤ ci z k ∧ ci z k < n) ∧ e = .returned (.int .i64 (-1))))
theorem ints_cell {z : List Int} {o : Option Addr} {c : Nat} {w : World} (hS : RowIs w o (intsV z) c) (k : Nat) (hk : k < z.length) : ∃ b off, o = some ⟨b, off, none⟩ ∧ w.cell? ⟨b, off + k, none⟩ = some (.int .i64 (ci z k)) := by
  obtain ⟨b, off, rfl, _, hc⟩ := hS.cells (by simp; omega)
  exact ⟨b, off, rfl, hc k _ (by simp [intsV, ci, List.getD_eq_getElem?_getD, hk])⟩
set_option maxRecDepth 100000 in
set_option maxHeartbeats 2000000 in
theorem cindex_any (z : List Int) (n : Int) (Q c : Nat) (o : Option Addr) (w : World) (hS : RowIs w o (intsV z) c) (hq : Boxed w Q 3 (.int .i64 n)) :
    Calls Tryz.prog 86 #[.slice o z.length c, .func (.func 70) #[] #[.pointer (some ⟨Q, 0, none⟩)]] w (IxTo n z w) := by
  have h1 := hS.le
  have h2 := hS.cap
  simp only [intsV_length] at h1
  unfold maxLen at h2
  have HS := Lib.hid hS
  have HQ := Lib.hid hq
  clear hS hq
  go_enter Tryz.func86, Tryz.ntmps86
  go_wp2_with fail
  go_loopw [5, 8] (fun _ i wr => IxAt n z w i wr) (fun _ i _ => z.length - (intOf i).toNat)
  case atStart => exact ⟨0, Nat.zero_le _, rfl, fun j h => absurd h (by omega), rfl⟩
  case round =>
    obtain ⟨k, hk, rfl, hall, rfl⟩ := hrel
    have HALL := Lib.hid hall
    clear hall
    by_cases hlt : k < z.length
    · obtain ⟨b, off, rfl, hcell⟩ := ints_cell HS.out k hlt
      obtain ⟨p, hp⟩ : ∃ p, ci z k = p := ⟨_, rfl⟩
      rw [hp] at hcell
      have HP := Lib.hid hp
      have hk0 : (0 : Int) ≤ (k : Int) := by omega
      have hk1 : (k : Int) < (z.length : Int) := by omega
      have HBY := Lib.hid (beyond_any p n Q wr HQ.out)
      clear hp
      by_cases hb : p < 0 ∨ n ≤ p
      · rw [decide_eq_true hb] at HBY
        have HBB := Lib.hid hb
        clear hb
        go_wp2_with fail
        refine HBY.out.mono ?_; rintro e w2 ⟨rfl, rfl⟩
        go_wp2_with fail
        go_ret
        exact ⟨rfl, .inl ⟨⟨k, hlt, by rw [HP.out]; exact HBB.out⟩, k, rfl⟩⟩
      · rw [decide_eq_false hb] at HBY
        have HBB := Lib.hid hb
        clear hb
        go_wp2_with fail
        refine HBY.out.mono ?_; rintro e w2 ⟨rfl, rfl⟩
        go_wp2_with fail
        go_roundw
        case rel =>
          refine ⟨k + 1, by omega, by go_num, fun j hj => ?_, rfl⟩
          by_cases e : j = k
          · rw [e, HP.out]; have := HBB.out; omega
          · exact HALL.out j (by omega)
        case measure => simp [intOf]; omega
    · obtain rfl : k = z.length := by omega
      go_wp2_with fail
      go_ret
      exact ⟨rfl, .inr ⟨HALL.out, rfl⟩⟩
def CtTo (n : Int) (z : List Int) (w : World) (e : Ending) (w' : World) : Prop :=
  w' = w ∧ (((∃ k, k < z.length ∧ (ci z k < 0 ∨ n ≤ ci z k)) ∧ e = .returned (.bool true)) ∨ ((∀ k, k < z.length → 0 ≤ ci z k ∧ ci z k < n) ∧ e = .returned (.bool false)))
theorem ccontains_any (z : List Int) (n : Int) (Q c : Nat) (o : Option Addr) (w : World) (hS : RowIs w o (intsV z) c) (hq : Boxed w Q 3 (.int .i64 n)) :
    Calls Tryz.prog 71 #[.slice o z.length c, .func (.func 70) #[] #[.pointer (some ⟨Q, 0, none⟩)]] w (CtTo n z w) := by
  have HI := Lib.hid (cindex_any z n Q c o w hS hq)
  clear hS hq
  go_enter Tryz.func71, Tryz.ntmps71
  go_wp2_with fail
  refine HI.out.mono ?_; rintro e w2 ⟨rfl, ⟨h, k, rfl⟩ | ⟨h, rfl⟩⟩
  · have hk : (0 : Int) ≤ (k : Int) := by omega
    have H := Lib.hid h
    clear h
    go_wp2_with fail
    go_ret
    exact ⟨rfl, .inl ⟨H.out, rfl⟩⟩
  · have H := Lib.hid h
    clear h
    go_wp2_with fail
    go_ret
    exact ⟨rfl, .inr ⟨H.out, rfl⟩⟩
def zb : Array Value := Array.replicate 255 (.bool false)
theorem zero_bools (w : World) : Sem.run Tryz.prog (zeroValue 144) w = .ok (.agg zb) w := by kernel_rfl
/-- which places have been seen -/
def Seen (z : List Int) (k : Nat) (D : Array Value) : Prop := D.size = 255 ∧ ∀ p, p < 255 → D[p]? = some (.bool (decide (∃ j, j < k ∧ ci z j = (p : Int))))
def DbAt (z : List Int) (w : World) (i : Value) (wr : World) : Prop := ∃ (k : Nat) (D : Array Value), k ≤ z.length ∧ i = .int .i64 k ∧ Seen z k D ∧ (∀ a b, b < a → a < k → ci z a ≠ ci z b) ∧ wr = w.alloc (.cells D 144)
def DbTo (z : List Int) (w : World) (e : Ending) (w' : World) : Prop :=
  Below w.heap.size w w' ∧ (((∃ i j, j < i ∧ i < z.length ∧ ci z i = ci z j) ∧ e = .returned (.bool true)) ∨ ((∀ i j, j < i → i < z.length → ci z i ≠ ci z j) ∧ e = .returned (.bool false)))
theorem Seen.step {z : List Int} {k p : Nat} {D : Array Value} (h : Seen z k D) (hp : ci z k = (p : Int)) (hp2 : p < 255) : Seen z (k + 1) (D.setIfInBounds p (.bool true)) := by
  refine ⟨by simp [h.1], fun q hq => ?_⟩
  simp only [Array.getElem?_setIfInBounds]
  by_cases e : p = q
  · subst e
    rw [if_pos rfl, if_pos (by rw [h.1]; exact hq)]
    congr 2
    exact (decide_eq_true ⟨k, by omega, hp⟩).symm
  · rw [if_neg e, h.2 q hq]
    congr 2
    refine decide_eq_decide.2 ⟨fun ⟨j, h1, h2⟩ => ⟨j, by omega, h2⟩, fun ⟨j, h1, h2⟩ => ⟨j, ?_, h2⟩⟩
    by_cases ej : j = k
    · rw [ej, hp] at h2
      omega
    · omega
set_option maxRecDepth 100000 in
set_option maxHeartbeats 2000000 in
theorem doubled_of (Z : Array Value) (hz : ∀ w, Sem.run Tryz.prog (zeroValue 144) w = .ok (.agg Z) w) (z : List Int) (hZ : Seen z 0 Z) (n c : Nat) (o : Option Addr) (w : World) (hS : RowIs w o (intsV z) c) (hn : n ≤ 255) (hin : ∀ k, k < z.length → 0 ≤ ci z k ∧ ci z k < n) :
    Calls Tryz.prog 72 #[.slice o z.length c] w (DbTo z w) := by
  have h1 := hS.le
  have h2 := hS.cap
  simp only [intsV_length] at h1
  unfold maxLen at h2
  have HS := Lib.hid hS
  have HZ := Lib.hid hZ
  have HIN := Lib.hid hin
  clear hS hZ hin
  go_enter Tryz.func72, Tryz.ntmps72
  go_wp2_with fail
  clear hz
  go_loopw [5, 8] (fun _ i wr => DbAt z w i wr) (fun _ i _ => z.length - (intOf i).toNat)
  case atStart => exact ⟨0, Z, Nat.zero_le _, rfl, HZ.out, fun a b _ h => absurd h (by omega), rfl⟩
  case round =>
    obtain ⟨k, D, hk, rfl, hD, hdis, rfl⟩ := hrel
    have HDIS := Lib.hid hdis
    have HD := Lib.hid hD
    by_cases hlt : k < z.length
    · obtain ⟨b, off, rfl, hcell⟩ := ints_cell (HS.out.later ((Below.refl _ _).alloc (Nat.le_refl _) (.cells D 144))) k hlt
      have hpn := HIN.out k hlt
      obtain ⟨p, hp⟩ := Int.eq_ofNat_of_zero_le hpn.1
      rw [hp] at hcell hpn
      have hp255 : p < 255 := by omega
      have hDp := hD.2 p hp255
      have HP := Lib.hid hp
      have hk0 : (0 : Int) ≤ (k : Int) := by omega
      have hk1 : (k : Int) < (z.length : Int) := by omega
      have hp0 : (0 : Int) ≤ (p : Int) := by omega
      have hp1 : (p : Int) < 255 := by omega
      have HPN : Hid (p < 255) := Lib.hid hp255
      by_cases hs : ∃ j, j < k ∧ ci z j = (p : Int)
      · rw [decide_eq_true hs] at hDp
        have HSS := Lib.hid hs
        clear hs hp hdis hD hpn
        go_wp2_with fail
        go_ret
        obtain ⟨j, hj, hjp⟩ := HSS.out
        exact ⟨(Below.refl _ _).alloc (Nat.le_refl _) _, .inl ⟨⟨k, j, hj, hlt, by rw [hjp, HP.out]⟩, rfl⟩⟩
      · rw [decide_eq_false hs] at hDp
        have HSS := Lib.hid hs
        clear hs hp hdis hD hpn
        go_wp2_with fail
        go_roundw
        case rel =>
          refine ⟨k + 1, D.setIfInBounds p (.bool true), by omega, by go_num, HD.out.step HP.out HPN.out, fun a b hb ha => ?_, rfl⟩
          by_cases e : a = k
          · rw [e] at hb ⊢
            intro h
            exact HSS.out ⟨b, hb, by rw [← h, HP.out]⟩
          · exact HDIS.out a b hb (by omega)
        case measure => simp [intOf]; omega
    · obtain rfl : k = z.length := by omega
      clear hD
      go_wp2_with fail
      go_ret
      exact ⟨(Below.refl _ _).alloc (Nat.le_refl _) _, .inr ⟨fun i j h1 h2 => HDIS.out i j h1 h2, rfl⟩⟩
theorem doubled_any (z : List Int) (n c : Nat) (o : Option Addr) (w : World) (hS : RowIs w o (intsV z) c) (hn : n ≤ 255) (hin : ∀ k, k < z.length → 0 ≤ ci z k ∧ ci z k < n) :
    Calls Tryz.prog 72 #[.slice o z.length c] w (DbTo z w) := by
  refine doubled_of zb zero_bools z ⟨by simp [zb], fun p hp => ?_⟩ n c o w hS hn hin
  rw [decide_eq_false (fun ⟨j, hj, _⟩ => absurd hj (by omega))]
  simp [zb, hp]
end Go.Proofs.YtgifbpjmblemhaaGreatDoor
namespace Go.Proofs.YtgifbpjmblemhaaGreatDoor
open Go.RowKit
set_option linter.unusedVariables false
attribute [local go_sem] Oper.semAt_some
set_option maxRecDepth 100000 in
theorem inverses_walk (l : Nat) (I : Nat → World → Prop) (B Bx : World → Prop) (o : Option Addr) (z : List UInt8) (c Q : Nat) (w : World)
    (hI : ∀ i X, I i X → Boxed X Q 24 (.slice o z.length c) ∧ RowIs X o (bytesV z) c)
    (hA : ∀ i X ob, I i X → I i (X.alloc ob)) (hBk : ∀ X X', B X → KeepsOthers X X' → B X')
    (hturn : ∀ i A X, I i X → B X → i < z.length → X.heap[A]? = some (.cells #[.int .u8 1, .int .u8 ((co z i).toNat : Int)] 5 (0, 0)) →
      YieldAt Fence.wide 0 Tryz.prog l #[.slice (some ⟨A, 0, none⟩) 2 2] X fun e X' => (e = .returned (.bool true) ∧ I (i + 1) X' ∧ B X') ∨ (e = .returned (.bool false) ∧ Bx X'))
    (h0 : I 0 w) (hB : B w) :
    Calls Tryz.prog 89 #[.func (.yield l) #[] #[], .pointer (some ⟨Q, 0, none⟩)] w fun e X => (∃ v, e = .returned v) ∧ ((I z.length X ∧ B X) ∨ Bx X) := by
  refine (callsIn_wide (n := 0)).1 (callsIn_of_wp Tryz.func89 rfl trivial ?_ rfl)
  simp only [Tryz.ntmps89, List.size_toArray, List.length_cons, List.length_nil, Nat.reduceAdd, Nat.reduceSub, Array.replicate_succ, Array.replicate_zero, List.push_toArray, List.append_toArray, List.nil_append, List.cons_append]
  have hq := (hI _ _ h0).1.cell
  have hr0 := (hI _ _ h0).2
  have hn : z.length ≤ 9223372036854775807 := by
    have h1 := hr0.le
    have h2 := hr0.cap
    simp only [bytesV_length] at h1
    unfold maxLen at h2
    omega
  clear hr0
  gi_wp2
  gi_loopw [4, 7] (fun _ p wr => ∃ k : Nat, k ≤ z.length ∧ p = .int .i64 (k : Int) ∧ I k wr ∧ B wr) (fun _ p wr => z.length - (intOf p).toNat)
  case atStart => exact ⟨0, Nat.zero_le _, rfl, h0, hB⟩
  case round =>
    obtain ⟨k, hk, rfl, hi, hb⟩ := hrel
    obtain ⟨hq2, hr⟩ := hI _ _ hi
    by_cases hlt : k < z.length
    · have hm := hr.cap
      have hle := hr.le
      simp only [bytesV_length] at hle
      unfold maxLen at hm
      obtain ⟨b1, off1, rfl, hb1, hcell⟩ := hr.cells (by simp; omega)
      have hc1 : wr.cell? ⟨b1, off1 + k, none⟩ = some (.int .u8 ((co z k).toNat : Int)) := hcell k _ (bytesV_get z k (by omega))
      have hx := UInt8.toNat_lt (co z k)
      obtain ⟨fn, tmps, assign, body, hy, hR⟩ := hturn k wr.heap.size (wr.alloc (.cells #[.int .u8 1, .int .u8 ((co z k).toNat : Int)] 5)) (hA _ _ _ hi) (hBk _ _ hb (KeepsOthers.alloc _ _)) hlt (World.alloc_heap_new _ _)
      have HI := Lib.hid hI
      have HT := Lib.hid hturn
      clear hcell hI hturn
      gi_wp2
      refine ⟨rfl, hR.mono ?_⟩
      rintro e W3 (⟨rfl, hi3, hb3⟩ | ⟨rfl, hx3⟩)
      · gi_wp2
        go_roundw
        case rel => exact ⟨k + 1, by omega, by go_num, hi3, hb3⟩
        case measure => simp [intOf]; omega
      · gi_wp2
        refine bodyPost_ret (results_none rfl _ _ _) rfl ?_
        exact ⟨⟨_, rfl⟩, .inr hx3⟩
    · obtain rfl : k = z.length := by omega
      gi_wp2
      go_end0
      exact ⟨⟨_, rfl⟩, .inl ⟨hi, hb⟩⟩
theorem factors_inverses (z : List UInt8) (o : Option Addr) (c Q : Nat) : Factors 89 (fun r => [1, r]) z o c Q :=
  fun l I B Bx w hI hA hBk hturn h0 hB => inverses_walk l I B Bx o z c Q w hI hA hBk (fun i A X a b d e => hturn i A X a b d e) h0 hB
theorem inverses_any (z : List UInt8) (o : Option Addr) (c : Nat) (w : World) (hl : z.length ≤ 1000) (hR : RowIs w o (bytesV z) c) :
    Calls Tryz.prog 74 #[.slice o z.length c] w fun e w' => ∃ g cap, e = .returned (.slice (some ⟨g, 0, none⟩) (tr (prodL (fun r => [1, r]) z z.length)).length cap) ∧ w.heap.size ≤ g ∧ Below w.heap.size w w' ∧ RowIs w' (some ⟨g, 0, none⟩) (bytesV (tr (prodL (fun r => [1, r]) z z.length))) cap := by
  have hmf := @makes Tryz.prog
  have hcal := all_any 89 (fun r => [1, r]) (fun _ => rfl) z o c w.heap.size (w.alloc (.cells #[.slice o z.length c] 24)) (enters_of Tryz.func89 (by kernel_rfl) rfl) (factors_inverses z o c _) hl (Boxed.new w _ _) (hR.later ((Below.refl _ _).alloc (Nat.le_refl _) _))
  have HCAL := Lib.hid hcal
  clear hcal hR
  go_enter Tryz.func74, Tryz.ntmps74
  go_wp2_with fail
  refine HCAL.out.mono ?_; rintro e w1 ⟨g, cap, rfl, hg, hb, hr⟩
  have HB := Lib.hid hb
  have HR := Lib.hid hr
  have hg2 : w.heap.size ≤ g := by simp at hg; omega
  clear hb hr hg HCAL hmf
  go_wp2_with fail
  go_ret
  exact ⟨g, cap, rfl, hg2, ((Below.refl w.heap.size w).alloc (Nat.le_refl _) _).trans (HB.out.mono (by simp)), HR.out⟩
end Go.Proofs.YtgifbpjmblemhaaGreatDoor
namespace Go.Proofs.YtgifbpjmblemhaaGreatDoor
open Go.RowKit
set_option linter.unusedVariables false
set_option linter.unusedSimpArgs false
/-- these places may be erased -/
def EOk (n : Nat) (z : List Int) : Prop := (∀ k, k < z.length → 0 ≤ ci z k ∧ ci z k < n) ∧ (∀ i j, j < i → i < z.length → ci z i ≠ ci z j) ∧ z.length ≤ 32
def er_v (A : Nat → Addr) (k : Nat) : Ending := .returned (.tuple #[.slice none 0 0, .iface 152 (.pointer (some (A k)))])
def CErTo (n : Nat) (z : List Int) (A : Nat → Addr) (w : World) (e : Ending) (w' : World) : Prop :=
  Below w.heap.size w w' ∧ (((∃ k, k < z.length ∧ (ci z k < 0 ∨ (n : Int) ≤ ci z k)) ∧ e = er_v A 0) ∨
    ((∀ k, k < z.length → 0 ≤ ci z k ∧ ci z k < n) ∧ (((∃ i j, j < i ∧ i < z.length ∧ ci z i = ci z j) ∧ e = er_v A 9) ∨
      ((∀ i j, j < i → i < z.length → ci z i ≠ ci z j) ∧ ((32 < z.length ∧ e = er_v A 15) ∨
        (z.length ≤ 32 ∧ ∃ x, e = .returned (.tuple #[x, .nilIface]) ∧ RowV (tr (prodL (fun r => [1, r]) (xsL n z) z.length)) x w'))))))
theorem errs_drew {w : World} {A : Nat → Addr} (h : Er.Six w A) : Er.Six w.drew A := h.later (Kit.dn' w 1)
set_option maxRecDepth 100000 in
set_option maxHeartbeats 2000000 in
theorem cer_size (m c : Nat) (o : Option Addr) (n : Int) (w : World) (A : Nat → Addr) (hE : Er.Six w A) (h : ¬ (33 ≤ n ∧ n ≤ 255)) :
    Calls Tryz.prog 56 #[.int .i64 n, .slice o m c] w fun e w' => e = er_v A 7 ∧ Below w.heap.size w w' := by
  have hE1 := (hE.later ((Below.refl _ _).alloc (Nat.le_refl _) (.cells #[.int .i64 n] 3))).c7
  by_cases h1 : n ≤ 32
  · have hd1 : decide (n ≤ 32) = true := decide_eq_true h1
    clear hE h h1
    go_enter Tryz.func56, Tryz.ntmps56
    go_wp2_with fail
    go_quiet (fail)
    go_wp2
    go_ret2
    exact ⟨rfl, ((Below.refl _ _).alloc (Nat.le_refl _) _).trans ⟨rfl, rfl, rfl, Nat.le_refl _, fun _ _ => rfl⟩⟩
  · have hd1 : decide (n ≤ 32) = false := decide_eq_false h1
    have hd2 : decide (255 < n) = true := decide_eq_true (by omega)
    clear hE h h1
    go_enter Tryz.func56, Tryz.ntmps56
    go_wp2_with fail
    go_quiet (fail)
    go_wp2
    go_ret2
    exact ⟨rfl, ((Below.refl _ _).alloc (Nat.le_refl _) _).trans ⟨rfl, rfl, rfl, Nat.le_refl _, fun _ _ => rfl⟩⟩
def CeAt (n : Nat) (z : List Int) (w w2 : World) (v i : Value) (wr : World) : Prop :=
  ∃ k : Nat, k ≤ z.length ∧ i = .int .i64 k ∧ wr.ownsRow w2.heap.size 5 1 v k (bytesV ((xsL n z).take k)) ∧ Below w2.heap.size w2 wr
set_option maxRecDepth 100000 in
set_option maxHeartbeats 4000000 in
theorem cer_any (z : List Int) (n c : Nat) (o : Option Addr) (w : World) (A : Nat → Addr) (hS : RowIs w o (intsV z) c) (hn1 : 33 ≤ n) (hn2 : n ≤ 255) (hl : z.length ≤ 900) (hE : ¬ EOk n z → Er.Six w A) :
    Calls Tryz.prog 56 #[.int .i64 n, .slice o z.length c] w (CErTo n z A w) := by
  have h1 := hS.le
  have h2 := hS.cap
  simp only [intsV_length] at h1
  unfold maxLen at h2
  obtain ⟨w1, hw1⟩ : ∃ w1, w.alloc (.cells #[.int .i64 (n : Int)] 3) = w1 := ⟨_, rfl⟩
  have hb1 : Below w.heap.size w w1 := by rw [← hw1]; exact (Below.refl _ _).alloc (Nat.le_refl _) _
  have hq1 : Boxed w1 w.heap.size 3 (.int .i64 (n : Int)) := by rw [← hw1]; exact Boxed.new w _ _
  have hS1 := hS.later hb1
  have hcc := ccontains_any z n w.heap.size c o w1 hS1 hq1
  rw [← hw1] at hcc
  have HCC := Lib.hid hcc
  have HB1 := Lib.hid hb1
  have HQ1 := Lib.hid hq1
  have HS1 := Lib.hid hS1
  have HW1 := Lib.hid hw1
  have HE : Hid (¬ EOk n z → Er.Six w1 A) := Lib.hid fun h => (hE h).later hb1
  have hd1 : decide ((n : Int) ≤ 32) = false := decide_eq_false (by omega)
  have hd2 : decide (255 < (n : Int)) = false := decide_eq_false (by omega)
  clear hS hE hb1 hq1 hS1 hcc hw1
  go_enter Tryz.func56, Tryz.ntmps56
  go_wp2_with fail
  refine HCC.out.mono ?_; rintro e w2 ⟨he, hx⟩
  rw [HW1.out] at he
  subst he
  rcases hx with ⟨hbad, rfl⟩ | ⟨hin, rfl⟩
  · have hE0 := (HE.out (fun h => by obtain ⟨k, hk, hb⟩ := hbad; have := h.1 k hk; omega)).c0
    have HBAD := Lib.hid hbad
    clear hbad
    go_wp2_with fail
    go_quiet (fail)
    go_wp2
    go_ret2
    exact ⟨HB1.out.trans ⟨rfl, rfl, rfl, Nat.le_refl _, fun _ _ => rfl⟩, .inl ⟨HBAD.out, rfl⟩⟩
  · have HIN := Lib.hid hin
    have HDB := Lib.hid (doubled_any z n c o w2 HS1.out hn2 hin)
    clear hin
    go_wp2_with fail
    refine HDB.out.mono ?_; rintro e w3 ⟨hb3, ⟨hdup, rfl⟩ | ⟨hdis, rfl⟩⟩
    · have hE9 := ((HE.out (fun h => by obtain ⟨i, j, h1, h2, h3⟩ := hdup; exact h.2.1 i j h1 h2 h3)).later hb3).c9
      have HDUP := Lib.hid hdup
      have HB3 := Lib.hid (Kit.step HB1.out hb3)
      clear hdup hb3
      go_wp2_with fail
      go_quiet (fail)
      go_wp2
      go_ret2
      exact ⟨HB3.out.trans ⟨rfl, rfl, rfl, Nat.le_refl _, fun _ _ => rfl⟩, .inr ⟨HIN.out, .inl ⟨HDUP.out, rfl⟩⟩⟩
    · have HDIS := Lib.hid hdis
      have HB3 := Lib.hid (Kit.step HB1.out hb3)
      have HS3 := Lib.hid (HS1.out.later hb3)
      have HQ3 := Lib.hid (boxed_later HQ1.out hb3)
      by_cases h32 : 32 < z.length
      · have hd32 : decide ((32 : Int) < (z.length : Int)) = true := decide_eq_true (by omega)
        have hE15 := ((HE.out (fun h => by have := h.2.2; omega)).later hb3).c15
        clear hdis hb3
        go_wp2_with fail
        go_quiet (fail)
        go_wp2
        go_ret2
        exact ⟨HB3.out.trans ⟨rfl, rfl, rfl, Nat.le_refl _, fun _ _ => rfl⟩, .inr ⟨HIN.out, .inr ⟨HDIS.out, .inl ⟨h32, rfl⟩⟩⟩⟩
      · have hd32 : decide ((32 : Int) < (z.length : Int)) = false := decide_eq_false (by omega)
        clear hdis hb3
        go_wp2_with fail
        go_loopw [7, 9, 35] (fun v _ i wr => CeAt n z w w3 v i wr) (fun _ _ i _ => z.length - (intOf i).toNat)
        case atStart => exact ⟨0, Nat.zero_le _, rfl, World.ownsRow_nil _ _ _ _, Below.refl _ _⟩
        case round =>
          obtain ⟨k, hk, rfl, hv, hb⟩ := hrel
          have HV := Lib.hid hv
          have HB := Lib.hid hb
          by_cases hlt : k < z.length
          · obtain ⟨b, off, rfl, hcell⟩ := ints_cell (HS3.out.later hb) k hlt
            have hin := HIN.out k hlt
            have hcx := co_xsL n z k hlt
            obtain ⟨p, hp⟩ := Int.eq_ofNat_of_zero_le hin.1
            rw [hp] at hcell hin hcx
            have HPW : Hid (∀ v, Calls Tryz.prog 73 #[.int .i64 (n : Int), .int .i64 (p : Int)] v fun e w' => e = .returned (.int .u8 ((co (xsL n z) k).toNat : Int)) ∧ w' = v) := Lib.hid fun v => by
              have := cpower_any (n : Int) (p : Int) v
              rwa [pwv, if_pos ⟨by omega, by omega, by omega, by omega⟩, show ((n : Int) - 1 - (p : Int)).toNat = n - 1 - p by omega, ← (show co (xsL n z) k = Gf.al (n - 1 - p) from hcx)] at this
            have HTS : Hid ((xsL n z).take k ++ [co (xsL n z) k] = (xsL n z).take (k + 1)) := Lib.hid (take_step (xsL n z) k (by simp [xsL]; omega)).symm
            obtain ⟨x, hx⟩ : ∃ x, co (xsL n z) k = x := ⟨_, rfl⟩
            rw [hx] at HPW HTS
            have hxl := UInt8.toNat_lt x
            have hqn := (boxed_later HQ3.out hb).cell
            have hk0 : (0 : Int) ≤ (k : Int) := by omega
            have hk1 : (k : Int) < (z.length : Int) := by omega
            have HV2 := Lib.hid (World.ownsRow.alloc HV.out (.cells (bytesV [x]).toArray 5))
            have HB2' := Lib.hid (HB.out.alloc HB.out.size (.cells (bytesV [x]).toArray 5))
            clear hp hin hcx hx hv hb
            go_wp2_with fail
            refine (HPW.out _).mono ?_; rintro e w' ⟨rfl, rfl⟩
            go_wp2_with (at_builtin; refine append_row rfl (.tmp 39) (.tmp 43) rfl w3.heap.size _ k ((xsL n z).take k) rfl HV2.out _ 1 1 [x] rfl rfl (row_cells (World.alloc_heap_new _ _) (by unfold maxLen; simp)) (by omega) HB2'.out.size ?_)
            intro v' w' hv hg
            rw [HTS.out] at hv
            have HV3 := Lib.hid hv
            have HB3' := Lib.hid (own_below (n := 0) HB2'.out HV2.out hg)
            clear hv hg
            go_wp2
            go_roundw
            case rel => exact ⟨k + 1, by omega, by go_num, HV3.out, HB3'.out⟩
            case measure => simp [intOf]; omega
          · obtain rfl : k = z.length := by omega
            have hfull : (xsL n z).take z.length = xsL n z := List.take_of_length_le (by simp [xsL])
            have hxl : (xsL n z).length = z.length := by simp [xsL]
            obtain ⟨o3, c3, rfl, hr⟩ := owns_rv HV.out (by simp [xsL])
            rw [hfull] at hr
            have hi := inverses_any (xsL n z) o3 c3 wr (by rw [hxl]; omega) hr
            rw [hxl] at hi
            have HI := Lib.hid hi
            have HBW := Lib.hid (Kit.step HB3.out hb)
            have HLEN : Hid (((xsL n z).take z.length).length = z.length) := Lib.hid (by rw [hfull, hxl])
            clear hi hr hv hb hfull
            rw [HLEN.out]
            go_wp2_with fail
            refine HI.out.mono ?_; rintro e w4 ⟨g, cap, rfl, hg, hb4, hr4⟩
            have HB4 := Lib.hid (Kit.step HBW.out hb4)
            have HR4 := Lib.hid hr4
            clear hg hb4 hr4 HI
            go_wp2_with fail
            go_ret2
            exact ⟨HB4.out, .inr ⟨HIN.out, .inr ⟨HDIS.out, .inr ⟨by omega, _, rfl, ⟨_, _, rfl, HR4.out⟩⟩⟩⟩⟩
end Go.Proofs.YtgifbpjmblemhaaGreatDoor
namespace Go.Proofs.YtgifbpjmblemhaaGreatDoor
open Go.RowKit
set_option linter.unusedVariables false
set_option linter.unusedSimpArgs false
theorem row_cells_at {X : World} {A : Nat} {t : TypeId} {z : List UInt8} (h : X.heap[A]? = some (.cells (bytesV z).toArray t (0, 0))) (hm : z.length ≤ maxLen) : RowIs X (some ⟨A, 0, none⟩) (bytesV z) z.length :=
  ⟨by simp, hm, (fun e => by cases e), fun h0 => ⟨A, 0, rfl, (Array.getElem?_eq_some_iff.1 h).1, fun i v hv => by
    rw [Nat.zero_add]
    simp only [World.cell?, h]
    simpa using hv⟩⟩
/-- the coefficients from that of x to the power e on, up to the power 31 -/
def forL (s g : List UInt8) : List UInt8 := tab (fun i => co (mulL s g) ((tr g).length - 1 + i)) (32 - ((tr g).length - 1))
def FoAt (P : List UInt8) (e : Nat) (w : World) (v iv : Value) (wr : World) : Prop :=
  ∃ k : Nat, e + k ≤ 32 ∧ iv = .int .i64 ((e + k : Nat) : Int) ∧ wr.ownsRow w.heap.size 5 1 v k (bytesV (tab (fun i => co P (e + i)) k)) ∧ Below w.heap.size w wr
set_option maxRecDepth 100000 in
set_option maxHeartbeats 2000000 in
theorem rfor_any (s g : List UInt8) (o : Option Addr) (c : Nat) (w : World) (hs : s.length = 32) (hG : RowIs w o (bytesV g) c) (hl : g.length ≤ 10000) (h0 : 1 ≤ (tr g).length) (he : (tr g).length ≤ 33) (C : Array Value) (hC : (bytesV s).toArray = C) :
    Calls Tryz.prog 32 #[.agg C, .slice o g.length c] w (Rows (forL s g) w) := by
  have h3 := hG.le
  have h4 := hG.cap
  simp only [bytesV_length] at h3
  unfold maxLen at h4
  have HG := Lib.hid hG
  have HC := Lib.hid hC
  clear hG hC
  go_enter Tryz.func32, Tryz.ntmps32
  obtain ⟨w1, hw1⟩ : ∃ w1, w.alloc (.cells C 70) = w1 := ⟨_, rfl⟩
  have hb1 : Below w.heap.size w w1 := by rw [← hw1]; exact (Below.refl _ _).alloc (Nat.le_refl _) _
  have hS1 : RowIs w1 (some ⟨w.heap.size, 0, none⟩) (bytesV s) 32 := by
    rw [← hw1, ← HC.out, ← hs]
    exact row_cells_at (World.alloc_heap_new w (.cells (bytesV s).toArray 70)) (by unfold maxLen; omega)
  have HB1 := Lib.hid hb1
  have HS1 := Lib.hid hS1
  have HW1 := Lib.hid hw1
  have hrt := rtrim_any g o c _ (HG.out.later hb1) (by omega)
  rw [← hw1] at hrt
  have HRT := Lib.hid hrt
  clear hb1 hS1 hw1 hrt
  go_wp2_with fail
  refine HRT.out.mono ?_; rintro e w2 ⟨x, rfl, hx, hb⟩
  rw [HW1.out] at hb
  obtain ⟨o5, c5, rfl, _⟩ := hx
  obtain ⟨E, hE⟩ : ∃ E, (tr g).length = E + 1 := ⟨(tr g).length - 1, by omega⟩
  rw [hE]
  have hE32 : E ≤ 32 := by omega
  have HB2 := Lib.hid (Kit.step HB1.out hb)
  have HS2 := Lib.hid (HS1.out.later hb)
  have HGO : Hid (forL s g = tab (fun i => co (mulL s g) (E + i)) (32 - E)) := Lib.hid (by unfold forL; rw [hE, Nat.add_sub_cancel])
  have hm := rmulp_any s g _ o 32 c w2 HS2.out (HG.out.later HB2.out) (by omega)
  rw [hs] at hm
  have HM := Lib.hid hm
  clear hb hm HRT HW1 h0 he
  go_wp2_with fail
  refine HM.out.mono ?_; rintro e w3 ⟨x, rfl, hx, hb⟩
  obtain ⟨o6, c6, rfl, hx⟩ := hx
  have hPl : (tr (mulL s g)).length ≤ 10032 := by
    have h5 := tr_le (mulL s g)
    have h6 : (mulL s g).length = s.length + g.length := by simp [mulL]
    omega
  have hAT : ∀ (j : Nat) (v : World), j ≤ 32 → Below w3.heap.size w3 v → Calls Tryz.prog 47 #[.slice o6 (tr (mulL s g)).length c6, .int .i64 (j : Int)] v fun e w' => e = .returned (.int .u8 ((co (mulL s g) j).toNat : Int)) ∧ w' = v := fun j v hj hv => by
    have := at_any (tr (mulL s g)) j o6 c6 v (hx.later hv) (by omega)
    rwa [co_tr] at this
  have HAT := Lib.hid hAT
  have HB3 := Lib.hid (Kit.step HB2.out hb)
  have HBE : Hid (Below w3.heap.size w3 (w3.alloc (.cells #[] 5))) := Lib.hid ((Below.refl _ _).alloc (Nat.le_refl _) _)
  have HOWN : Hid ((w3.alloc (.cells #[] 5)).ownsRow w3.heap.size 5 1 (.slice (some ⟨w3.heap.size, 0, none⟩) 0 0) 0 (bytesV (tab (fun i => co (mulL s g) (E + i)) 0))) := Lib.hid (World.ownsRow_lit w3 #[] 0 (Nat.le_refl _) (Nat.zero_le _) rfl)
  generalize mulL s g = P at *
  clear hx hb HM hAT
  go_wp2_with fail
  go_loopw [7, 8] (fun v iv wr => FoAt P E w3 v iv wr) (fun _ iv _ => 32 - (intOf iv).toNat)
  case atStart => exact ⟨0, by omega, rfl, HOWN.out, HBE.out⟩
  case round =>
    obtain ⟨k, hk, rfl, hv, hb⟩ := hrel
    have HV := Lib.hid hv
    have HB := Lib.hid hb
    clear hv hb
    obtain ⟨j, hj⟩ : ∃ j, E + k = j := ⟨_, rfl⟩
    rw [hj]
    rw [hj] at hk
    have HJ := Lib.hid hj
    by_cases hlt : j < 32
    · have hd1 : decide ((j : Int) < 32) = true := decide_eq_true (by omega)
      have hk32 : k ≤ 32 := by omega
      have HAJ := Lib.hid (HAT.out j wr (by omega) HB.out)
      have HTS : Hid (tab (fun i => co P (E + i)) k ++ [co P j] = tab (fun i => co P (E + i)) (k + 1)) := Lib.hid (by rw [← hj]; exact tab_succ (fun i => co P (E + i)) k)
      clear hj
      generalize co P j = x at *
      have hxl := UInt8.toNat_lt x
      have HV2 := Lib.hid (World.ownsRow.alloc HV.out (.cells (bytesV [x]).toArray 5))
      have HB2' := Lib.hid (HB.out.alloc HB.out.size (.cells (bytesV [x]).toArray 5))
      go_wp2_with fail
      refine HAJ.out.mono ?_; rintro e w' ⟨rfl, rfl⟩
      go_wp2_with (at_builtin; refine append_row rfl (.tmp 24) (.tmp 28) rfl w3.heap.size _ k (tab (fun i => co P (E + i)) k) rfl HV2.out _ 1 1 [x] rfl rfl (row_cells (World.alloc_heap_new _ _) (by unfold maxLen; simp)) (by omega) HB2'.out.size ?_)
      intro v' w' hv hg
      rw [HTS.out] at hv
      have HV3 := Lib.hid hv
      have HB3' := Lib.hid (own_below (n := 0) HB2'.out HV2.out hg)
      clear hv hg
      go_wp2
      go_roundw
      case rel => exact ⟨k + 1, by have := HJ.out; omega, by have := HJ.out; go_num, HV3.out, HB3'.out⟩
      case measure => simp [intOf]; omega
    · obtain rfl : j = 32 := by omega
      obtain ⟨o3, c3, rfl, hr⟩ := owns_rv HV.out (by simp)
      have hke : k = 32 - E := by omega
      subst hke
      rw [← HGO.out] at hr
      have HR := Lib.hid hr
      clear hr
      go_wp2_with fail
      go_ret
      exact ⟨_, rfl, ⟨o3, c3, by rw [HGO.out]; rfl, HR.out⟩, Kit.step HB3.out HB.out⟩
end Go.Proofs.YtgifbpjmblemhaaGreatDoor
namespace Go.Proofs.YtgifbpjmblemhaaGreatDoor
open Go.RowKit
set_option linter.unusedVariables false
set_option linter.unusedSimpArgs false
/-- the row so far -/
def fnL (P : List UInt8) (E N k : Nat) : List UInt8 := tab (fun i => if i < k then co P (E + i) else 0) N
theorem fnL_zero (P : List UInt8) (E N : Nat) : List.replicate N (0 : UInt8) = fnL P E N 0 := list_ext (by simp [fnL]) fun i hi => by
  rw [zeros_co, fnL, co_tab _ _ _ (by simpa using hi), if_neg (by omega)]
theorem fnL_set (P : List UInt8) (E N k : Nat) (h : k < N) : (fnL P E N k).set k (co P (E + k)) = fnL P E N (k + 1) := list_ext (by simp [fnL]) fun i hi => by
  have hi2 : i < N := by simpa [fnL] using hi
  rw [co_set, fnL, fnL, co_tab _ _ _ hi2, co_tab _ _ _ hi2, tab_length]
  by_cases e : k = i
  · subst e
    rw [if_pos ⟨rfl, h⟩, if_pos (by omega)]
  · rw [if_neg (fun h => e h.1)]
    by_cases h2 : i < k
    · rw [if_pos h2, if_pos (by omega)]
    · rw [if_neg h2, if_neg (by omega)]
theorem fnL_skip (P : List UInt8) (E N k : Nat) (h : P.length ≤ E + k) : fnL P E N k = fnL P E N (k + 1) := list_ext (by simp [fnL]) fun i hi => by
  have hi2 : i < N := by simpa [fnL] using hi
  rw [fnL, fnL, co_tab _ _ _ hi2, co_tab _ _ _ hi2]
  by_cases h2 : i < k
  · rw [if_pos h2, if_pos (by omega)]
  · by_cases e : i = k
    · subst e
      rw [if_neg h2, if_pos (by omega), co_ge h]
    · rw [if_neg h2, if_neg (by omega)]
def CfAt (P : List UInt8) (E N : Nat) (w3 : World) (iv : Value) (wr : World) : Prop :=
  ∃ k : Nat, k ≤ N ∧ iv = .int .i64 k ∧ Buf wr w3.heap.size N (fnL P E N k) ∧ Below w3.heap.size w3 wr
set_option maxRecDepth 100000 in
set_option maxHeartbeats 4000000 in
theorem cfor_any (s g : List UInt8) (o : Option Addr) (c : Nat) (w : World) (hs : s.length = 32) (hG : RowIs w o (bytesV g) c) (hl : g.length ≤ 10000) (h0 : 1 ≤ (tr g).length) (he : (tr g).length ≤ 33) (C : Array Value) (hC : (bytesV s).toArray = C) :
    Calls Tryz.prog 57 #[.agg C, .slice o g.length c] w (Rows (forL s g) w) := by
  obtain ⟨i0, hi, hz0, hz1, hz2⟩ := info_parts info_u8
  have h3 := hG.le
  have h4 := hG.cap
  simp only [bytesV_length] at h3
  unfold maxLen at h4
  obtain ⟨w1, hw1⟩ : ∃ w1, w.alloc (.cells C 81) = w1 := ⟨_, rfl⟩
  have hb1 : Below w.heap.size w w1 := by rw [← hw1]; exact (Below.refl _ _).alloc (Nat.le_refl _) _
  have hg1 : w1.heap[w.heap.size]? = some (.cells C 81 (0, 0)) := by rw [← hw1]; exact World.alloc_heap_new w _
  have hdg := deg_any o g c w1 (hG.later hb1)
  rw [← tr_length] at hdg
  obtain ⟨E, hE⟩ : ∃ E, (tr g).length = E + 1 := ⟨(tr g).length - 1, by omega⟩
  rw [hE, show ((E + 1 : Nat) : Int) - 1 = (E : Int) by omega, ← hw1] at hdg
  obtain ⟨N, hN⟩ : ∃ N, 32 - E = N := ⟨_, rfl⟩
  have HDG := Lib.hid hdg
  have HB1 := Lib.hid hb1
  have HG1 := Lib.hid hg1
  have HW1 := Lib.hid hw1
  have HG := Lib.hid hG
  have HSZ := Lib.hid (csyn_size hs)
  rw [hC] at HSZ
  have HFO : Hid (forL s g = tab (fun i => co (tr (mulL (tr s) g)) (E + i)) N) := Lib.hid (by
    unfold forL
    rw [hE, Nat.add_sub_cancel, hN]
    refine list_ext (by simp) fun i hi => ?_
    have hi : i < N := by simpa using hi
    rw [co_tab _ _ _ hi, co_tab _ _ _ hi, co_tr]
    exact mulL_congr (fun j => (co_tr s j).symm) (fun _ => rfl) _)
  have hEN : E + N = 32 := by omega
  have HC := Lib.hid hC
  have hd1 : decide ((32 : Int) < (E : Int)) = false := decide_eq_false (by omega)
  clear hG hb1 hg1 hdg hw1 hE h0 he hN hC
  go_enter Tryz.func57, Tryz.ntmps57
  go_wp2_with fail
  refine HDG.out.mono ?_; rintro e w2 ⟨rfl, hb⟩
  rw [HW1.out] at hb
  have HB2 := Lib.hid (Kit.step HB1.out hb)
  have HG2 : Hid (w2.heap[w.heap.size]? = some (.cells C 81 (0, 0))) := Lib.hid (by rw [hb.block _ (Array.getElem?_eq_some_iff.1 HG1.out).1]; exact HG1.out)
  have hpo := spoly_any s hs w2
  rw [HC.out] at hpo
  have HPO := Lib.hid hpo
  clear hb HDG hpo
  go_wp2_with (refine wpList_load_row rfl 81 (.tmp 2) rfl w.heap.size rfl 81 C (0, 0) _ HG2.out csyn_under rfl HSZ.out ?_)
  refine HPO.out.mono ?_; rintro e w3 ⟨x, rfl, hx, hb⟩
  obtain ⟨o3, c3, rfl, hx⟩ := hx
  have HB3 := Lib.hid (Kit.step HB2.out hb)
  have hts := tr_le s
  have hmu := mul_poly_any (tr s) g o3 o c3 c w3 hx (HG.out.later HB3.out) (by omega)
  have HMU := Lib.hid hmu
  have hPl : (tr (mulL (tr s) g)).length ≤ 11000 := by
    have h5 := tr_le (mulL (tr s) g)
    have h6 : (mulL (tr s) g).length = (tr s).length + g.length := by simp [mulL]
    omega
  clear hx hb hmu HPO
  generalize tr (mulL (tr s) g) = P at *
  go_wp2_with fail
  refine HMU.out.mono ?_; rintro e w4 ⟨gp, cp, rfl, hgp, hb, hr⟩
  have HB4 := Lib.hid (Kit.step HB3.out hb)
  have HP4 := Lib.hid hr
  have hPc := hr.le
  have hPc2 := hr.cap
  simp only [bytesV_length] at hPc
  unfold maxLen at hPc2
  have hgp4 : 0 < P.length → gp < w4.heap.size := fun h0 => by
    obtain ⟨b1, f1, e1, h1, _⟩ := hr.cells (by simpa using h0)
    cases e1; exact h1
  have HGP := Lib.hid hgp4
  have hwN : IntKind.i64.wrap (32 - (E : Int)) = (N : Int) := by rw [IntKind.wrap_i64]; omega
  clear hb hr hgp HMU hgp4
  go_wp2_with (at_make; go_loud (refine wpList_make_full _ rfl _ _ 24 rfl 0 5 i0 (.int .u8 0) 1 Tryz.underlying24 hi hz0 hz1 _ _ _ _ N rfl rfl (by omega) (by omega) (by rw [hz2]; omega) (by unfold maxLen; omega) (Nat.zero_le _) ?_))
  intro w5 hown hgrow
  have hb5 : Below w4.heap.size w4 w5 := (Below.refl _ _).grown hgrow (Nat.le_refl _) (fun k h => by cases h)
  have hbuf := buf_made hown
  rw [fnL_zero P E N] at hbuf
  have HB5 := Lib.hid hb5
  have HBUF := Lib.hid hbuf
  have HP5 := Lib.hid (HP4.out.later hb5)
  clear hown hgrow hb5 hbuf
  go_wp2_with fail
  go_loopw [8, 9, 23] (fun _ _ i wr => CfAt P E N w4 i wr) (fun _ _ i _ => N - (intOf i).toNat)
  case atStart => exact ⟨0, Nat.zero_le _, rfl, HBUF.out, HB5.out⟩
  case round =>
    obtain ⟨k, hk, rfl, hbu, hb⟩ := hrel
    by_cases hlt : k < N
    · obtain ⟨m, hm⟩ : ∃ m, E + k = m := ⟨_, rfl⟩
      have hwm : IntKind.i64.wrap ((E : Int) + (k : Int)) = (m : Int) := by rw [IntKind.wrap_i64]; omega
      have hm0 : decide ((0 : Int) ≤ (m : Int)) = true := decide_eq_true (by omega)
      have hk0 : (0 : Int) ≤ (k : Int) := by omega
      have hk1 : (k : Int) < (N : Int) := by omega
      have HB6 := Lib.hid hb
      by_cases hmp : m < P.length
      · have hmd : decide ((m : Int) < (P.length : Int)) = true := decide_eq_true (by omega)
        obtain ⟨b1, off1, e1, hb1, hcell⟩ := (HP4.out.later hb).cells (by simp; omega)
        cases e1
        have hc1 : wr.cell? ⟨gp, 0 + m, none⟩ = some (.int .u8 ((co P m).toNat : Int)) := hcell m _ (bytesV_get P m hmp)
        have hc2 := hbu.cell k (by simp [fnL]; exact hlt)
        have hf2 := hbu.frozen k
        have hst := hbu.store k (co P m)
        rw [← hm, fnL_set P E N k hlt, hm] at hst
        have HST := Lib.hid hst
        have hmi : (m : Int) < (P.length : Int) := by omega
        have hm00 : (0 : Int) ≤ (m : Int) := by omega
        rw [Nat.zero_add] at hc1
        generalize co P m = x at *
        have hxl := UInt8.toNat_lt x
        clear hcell hb1 hbu hst hb hm
        go_wp2_with fail
        go_roundw
        case rel => exact ⟨k + 1, by omega, by go_num, HST.out.1, HB6.out.trans (Only.below HST.out.2 (Nat.le_refl _) HB6.out.size)⟩
        case measure => simp [intOf]; omega
      · have hmd : decide ((m : Int) < (P.length : Int)) = false := decide_eq_false (by omega)
        rw [fnL_skip P E N k (by omega)] at hbu
        have HST := Lib.hid hbu
        clear hbu hb
        go_wp2_with fail
        go_roundw
        case rel => exact ⟨k + 1, by omega, by go_num, HST.out, HB6.out⟩
        case measure => simp [intOf]; omega
    · obtain rfl : k = N := by omega
      have hfin : fnL P E k k = forL s g := by
        rw [HFO.out]
        exact list_ext (by simp [fnL]) fun i hi => by
          have hi : i < k := by simpa [fnL] using hi
          rw [fnL, co_tab _ _ _ hi, co_tab _ _ _ hi, if_pos hi]
      have HL : Hid (k = (forL s g).length) := Lib.hid (by rw [HFO.out]; simp)
      have HR := Lib.hid hbu.row
      rw [hfin] at HR
      have HB7 := Lib.hid (HB4.out.trans (hb.mono HB4.out.size))
      clear hbu hb hfin
      go_wp2_with fail
      go_ret
      exact ⟨_, rfl, ⟨_, _, by rw [← HL.out]; rfl, HR.out⟩, HB7.out⟩
end Go.Proofs.YtgifbpjmblemhaaGreatDoor
namespace Go.Proofs.YtgifbpjmblemhaaGreatDoor
open Go.RowKit
set_option linter.unusedVariables false
set_option linter.unusedSimpArgs false
theorem xsL_ne (n : Nat) (z : List Int) : ∀ y ∈ xsL n z, y ≠ 0 := fun y hy => by
  obtain ⟨p, _, rfl⟩ := List.mem_map.1 hy
  exact Gf.al_ne _
/-- the erasure locator -/
theorem er_loc (n : Nat) (z : List Int) : tr (prodL (fun r => [1, r]) (xsL n z) z.length) = Gf.locL (xsL n z) := by
  rw [← Gf.tr_loc _ (xsL_ne n z)]
  refine tr_congr fun i => ?_
  have hl : (xsL n z).length = z.length := by simp [xsL]
  rw [Gf.prod_loc (xsL n z) z.length (by omega), List.take_of_length_le (by omega)]
theorem loc_len (n : Nat) (z : List Int) : (Gf.locL (xsL n z)).length = z.length + 1 := by rw [Gf.locL_length]; simp [xsL]
theorem loc_tr (n : Nat) (z : List Int) : tr (Gf.locL (xsL n z)) = Gf.locL (xsL n z) := Gf.tr_loc _ (xsL_ne n z)
theorem for_len (s : List UInt8) (n : Nat) (z : List Int) : (forL s (Gf.locL (xsL n z))).length = 32 - z.length := by
  unfold forL
  rw [tab_length, loc_tr, loc_len, Nat.add_sub_cancel]
/-- a register of the code's -/
structure RF (R C : List UInt8) (L : Nat) : Prop where
  run : Gf.Run (co R) R.length (co C) L
  least : Gf.Least (co R) R.length L
  le : L ≤ R.length
  len : C.length ≤ L + 1
def fz : Value := .agg #[.int .i64 0, .slice none 0 0, .slice none 0 0]
def fe_v (A : Nat → Addr) (k : Nat) : Ending := .returned (.tuple #[fz, .iface 152 (.pointer (some (A k)))])
/-- the errata locator -/
def ertL (C : List UInt8) (n : Nat) (z : List Int) : List UInt8 := tr (mulL (tr C) (Gf.locL (xsL n z)))
/-- the evaluator -/
def evaL (s C : List UInt8) (n : Nat) (z : List Int) : List UInt8 := tr ((tr (mulL (tr s) (ertL C n z))).take (lowN 32 (tr (mulL (tr s) (ertL C n z))).length))
def CFiTo (s : List UInt8) (n : Nat) (z : List Int) (A : Nat → Addr) (w : World) (e : Ending) (w' : World) : Prop :=
  Below w.heap.size w w' ∧ (((∃ k, k < z.length ∧ (ci z k < 0 ∨ (n : Int) ≤ ci z k)) ∧ e = fe_v A 0) ∨
    ((∀ k, k < z.length → 0 ≤ ci z k ∧ ci z k < n) ∧ (((∃ i j, j < i ∧ i < z.length ∧ ci z i = ci z j) ∧ e = fe_v A 9) ∨
      ((∀ i j, j < i → i < z.length → ci z i ≠ ci z j) ∧ ((32 < z.length ∧ e = fe_v A 15) ∨
        (z.length ≤ 32 ∧ ∃ C L, RF (forL s (Gf.locL (xsL n z))) C L ∧
          (((32 < 2 * L + z.length ∨ (tr C).length ≤ L) ∧ e = fe_v A 16) ∨
           (2 * L + z.length ≤ 32 ∧ L < (tr C).length ∧ ∃ x1 x2, e = .returned (.tuple #[.agg #[.int .i64 (L : Int), x1, x2], .nilIface]) ∧ RowV (ertL C n z) x1 w' ∧ RowV (evaL s C n z) x2 w'))))))))
theorem fnd_under : ∃ d, Tryz.prog.underlying 85 = some d ∧ (match d with | .struct _ | .array _ _ => true | _ => false) = true := ⟨_, Tryz.underlying85, rfl⟩
theorem fnd_size : (Tryz.prog.info? 85).map (·.size) = some 3 := by kernel_rfl
theorem fnd_set {w : World} {g : Nat} {a b c : Value} (h : w.heap[g]? = some (.cells #[a, b, c] 85 (0, 0))) (x y v : Value) : (((w.setCell ⟨g, 0, none⟩ x).setCell ⟨g, 1, none⟩ y).setCell ⟨g, 2, none⟩ v).heap[g]? = some (.cells #[x, y, v] 85 (0, 0)) := by
  have e1 := setCell_eq_setRow w g 0 _ _ _ x h
  have h1 := setRow_heap w g #[a, b, c] (#[a, b, c].setIfInBounds 0 x) _ _ h
  rw [← e1] at h1
  have e2 := setCell_eq_setRow _ g 1 _ _ _ y h1
  have h2 := setRow_heap _ g _ ((#[a, b, c].setIfInBounds 0 x).setIfInBounds 1 y) _ _ h1
  rw [← e2] at h2
  have e3 := setCell_eq_setRow _ g 2 _ _ _ v h2
  have h3 := setRow_heap _ g _ (((#[a, b, c].setIfInBounds 0 x).setIfInBounds 1 y).setIfInBounds 2 v) _ _ h2
  rw [← e3] at h3
  simpa using h3
theorem fnd_below {w : World} {g n : Nat} (h : n ≤ g) (x y v : Value) : Below n w (((w.setCell ⟨g, 0, none⟩ x).setCell ⟨g, 1, none⟩ y).setCell ⟨g, 2, none⟩ v) :=
  (((Below.refl n w).setCell (p := ⟨g, 0, none⟩) h _).setCell (p := ⟨g, 1, none⟩) h _).setCell (p := ⟨g, 2, none⟩) h _
theorem fnd_other {w : World} {g p : Nat} {a b c : Value} (h : w.heap[g]? = some (.cells #[a, b, c] 85 (0, 0))) (hp : p ≠ g) (x y v : Value) : (((w.setCell ⟨g, 0, none⟩ x).setCell ⟨g, 1, none⟩ y).setCell ⟨g, 2, none⟩ v).heap[p]? = w.heap[p]? := by
  have e1 := setCell_eq_setRow w g 0 _ _ _ x h
  have h1 := setRow_heap w g #[a, b, c] (#[a, b, c].setIfInBounds 0 x) _ _ h
  rw [← e1] at h1
  have e2 := setCell_eq_setRow _ g 1 _ _ _ y h1
  have h2 := setRow_heap _ g _ ((#[a, b, c].setIfInBounds 0 x).setIfInBounds 1 y) _ _ h1
  rw [← e2] at h2
  have e3 := setCell_eq_setRow _ g 2 _ _ _ v h2
  rw [e3, setRow_other _ _ _ _ hp, e2, setRow_other _ _ _ _ hp, e1, setRow_other _ _ _ _ hp]
theorem fnd_row {w : World} {g : Nat} {o : Option Addr} {z : List UInt8} {cap : Nat} (h : w.heap[g]? = some (.cells #[.int .i64 0, .slice none 0 0, .slice none 0 0] 85 (0, 0))) (hr : RowIs w o (bytesV z) cap) (x y v : Value) : RowIs (((w.setCell ⟨g, 0, none⟩ x).setCell ⟨g, 1, none⟩ y).setCell ⟨g, 2, none⟩ v) o (bytesV z) cap :=
  ⟨hr.le, hr.cap, hr.nil, fun h0 => by
    obtain ⟨p, off, e, hlt, hc⟩ := hr.cells h0
    have h1 := hc 0 _ (bytesV_get z 0 (by simpa using h0))
    have hne : p ≠ g := fun e => by
      subst e
      have h2 := cell_of_row w p (off + 0) _ _ _ h
      rw [h1] at h2
      rcases off with _ | _ | _ | k <;> simp at h2
    refine ⟨p, off, e, ?_, fun i v hv => (World.cell?_of_block (fnd_other h hne _ _ _)).trans (hc i v hv)⟩
    have hb := fnd_other h hne x y v
    rw [Array.getElem?_eq_getElem hlt] at hb
    exact (Array.getElem?_eq_some_iff.1 hb).1⟩
set_option maxRecDepth 100000 in
set_option maxHeartbeats 4000000 in
theorem cfi_any (s : List UInt8) (z : List Int) (n c : Nat) (o : Option Addr) (w : World) (A : Nat → Addr) (hs : s.length = 32) (hS : RowIs w o (intsV z) c) (hn1 : 33 ≤ n) (hn2 : n ≤ 255) (hl : z.length ≤ 900) (hE : ¬ EOk n z → Er.Six w A)
    (hE2 : (∃ C L, RF (forL s (Gf.locL (xsL n z))) C L ∧ (32 < 2 * L + z.length ∨ (tr C).length ≤ L)) → Er.Six w A) (CS : Array Value) (hCS : (bytesV s).toArray = CS) :
    Calls Tryz.prog 38 #[.agg CS, .int .i64 n, .slice o z.length c] w (CFiTo s n z A w) := by
  obtain ⟨w1, hw1⟩ : ∃ w1, (w.alloc (.cells CS 81)).alloc (.cells #[.int .i64 0, .slice none 0 0, .slice none 0 0] 85) = w1 := ⟨_, rfl⟩
  have hb1 : Below w.heap.size w w1 := by rw [← hw1]; exact ((Below.refl _ _).alloc (Nat.le_refl _) _).alloc (by simp) _
  have hs1 : w1.heap[w.heap.size]? = some (.cells CS 81 (0, 0)) := by
    rw [← hw1, (MapKept.heap_alloc _ _).2 _ (by simp)]; exact World.alloc_heap_new w _
  have hf1 : w1.heap[w.heap.size + 1]? = some (.cells #[.int .i64 0, .slice none 0 0, .slice none 0 0] 85 (0, 0)) := by
    have := World.alloc_heap_new (w.alloc (.cells CS 81)) (.cells #[.int .i64 0, .slice none 0 0, .slice none 0 0] 85)
    rw [hw1, World.size_alloc] at this
    exact this
  have HER := Lib.hid (cer_any z n c o w1 A (hS.later hb1) hn1 hn2 hl (fun h => (hE h).later hb1))
  have HE2 : Hid ((∃ C L, RF (forL s (Gf.locL (xsL n z))) C L ∧ (32 < 2 * L + z.length ∨ (tr C).length ≤ L)) → Er.Six w1 A) := Lib.hid fun h => (hE2 h).later hb1
  have HGW : Hid ((∃ C L, RF (forL s (Gf.locL (xsL n z))) C L ∧ (32 < 2 * L + z.length ∨ (tr C).length ≤ L)) → 1 < w.heap.size) := Lib.hid fun h => by
    obtain ⟨o, ho, _⟩ := cells_of_cell (hE2 h).c16
    exact (Array.getElem?_eq_some_iff.1 ho).1
  have HB1 := Lib.hid hb1
  have HS1 := Lib.hid hs1
  have HF1 := Lib.hid hf1
  have HW1 := Lib.hid hw1
  have HSZ := Lib.hid (csyn_size hs)
  rw [hCS] at HSZ
  have HCS := Lib.hid hCS
  rw [← hw1] at HER
  have hc10 : w1.cell? ⟨w.heap.size + 1, 0, none⟩ = some (.int .i64 0) := by rw [cell_of_row _ _ 0 _ _ _ hf1]; rfl
  clear hS hE hE2 hb1 hs1 hf1 hw1 hCS hc10
  go_enter Tryz.func38, Tryz.ntmps38
  go_wp2_with fail
  refine HER.out.mono ?_; rintro e w2 hto
  rw [HW1.out] at hto
  obtain ⟨hb2, hto⟩ := hto
  have HB2 := Lib.hid (Kit.step HB1.out hb2)
  rcases hto with ⟨h, rfl⟩ | ⟨hin, ⟨h, rfl⟩ | ⟨hdis, ⟨h, rfl⟩ | ⟨h32, x, rfl, hx⟩⟩⟩
  · have hf2 : w2.heap[w.heap.size + 1]? = some (.cells #[.int .i64 0, .slice none 0 0, .slice none 0 0] 85 (0, 0)) := by rw [hb2.block _ (Array.getElem?_eq_some_iff.1 HF1.out).1]; exact HF1.out
    have hcc0 : w2.cell? ⟨w.heap.size + 1, 0, none⟩ = some (.int .i64 0) := by rw [cell_of_row _ _ 0 _ _ _ hf2]; rfl
    have hff0 : w2.frozen? ⟨w.heap.size + 1, 0, none⟩ = false := by unfold World.frozen?; rw [hf2]; rfl
    have hcc1 : w2.cell? ⟨w.heap.size + 1, 1, none⟩ = some (.slice none 0 0) := by rw [cell_of_row _ _ 1 _ _ _ hf2]; rfl
    have hff1 : w2.frozen? ⟨w.heap.size + 1, 1, none⟩ = false := by unfold World.frozen?; rw [hf2]; rfl
    have hcc2 : w2.cell? ⟨w.heap.size + 1, 2, none⟩ = some (.slice none 0 0) := by rw [cell_of_row _ _ 2 _ _ _ hf2]; rfl
    have hff2 : w2.frozen? ⟨w.heap.size + 1, 2, none⟩ = false := by unfold World.frozen?; rw [hf2]; rfl
    have Hh := Lib.hid h
    have HF2 := Lib.hid hf2
    unfold er_v
    clear hb2 hf2 h
    go_wp2_with fail
    refine bodyPost_ret (results_cell_row2 rfl _ _ (w.heap.size + 1) 85 #[.int .i64 0, .slice none 0 0, .slice none 0 0] (0, 0) _ rfl (fnd_set HF2.out _ _ _) Tryz.underlying85 rfl fnd_size) rfl ?_
    exact ⟨HB2.out.trans (fnd_below (by omega) _ _ _), .inl ⟨Hh.out, rfl⟩⟩
  · have hf2 : w2.heap[w.heap.size + 1]? = some (.cells #[.int .i64 0, .slice none 0 0, .slice none 0 0] 85 (0, 0)) := by rw [hb2.block _ (Array.getElem?_eq_some_iff.1 HF1.out).1]; exact HF1.out
    have hcc0 : w2.cell? ⟨w.heap.size + 1, 0, none⟩ = some (.int .i64 0) := by rw [cell_of_row _ _ 0 _ _ _ hf2]; rfl
    have hff0 : w2.frozen? ⟨w.heap.size + 1, 0, none⟩ = false := by unfold World.frozen?; rw [hf2]; rfl
    have hcc1 : w2.cell? ⟨w.heap.size + 1, 1, none⟩ = some (.slice none 0 0) := by rw [cell_of_row _ _ 1 _ _ _ hf2]; rfl
    have hff1 : w2.frozen? ⟨w.heap.size + 1, 1, none⟩ = false := by unfold World.frozen?; rw [hf2]; rfl
    have hcc2 : w2.cell? ⟨w.heap.size + 1, 2, none⟩ = some (.slice none 0 0) := by rw [cell_of_row _ _ 2 _ _ _ hf2]; rfl
    have hff2 : w2.frozen? ⟨w.heap.size + 1, 2, none⟩ = false := by unfold World.frozen?; rw [hf2]; rfl
    have Hhin := Lib.hid hin
    have Hh := Lib.hid h
    have HF2 := Lib.hid hf2
    unfold er_v
    clear hb2 hf2 hin h
    go_wp2_with fail
    refine bodyPost_ret (results_cell_row2 rfl _ _ (w.heap.size + 1) 85 #[.int .i64 0, .slice none 0 0, .slice none 0 0] (0, 0) _ rfl (fnd_set HF2.out _ _ _) Tryz.underlying85 rfl fnd_size) rfl ?_
    exact ⟨HB2.out.trans (fnd_below (by omega) _ _ _), .inr ⟨Hhin.out, .inl ⟨Hh.out, rfl⟩⟩⟩
  · have hf2 : w2.heap[w.heap.size + 1]? = some (.cells #[.int .i64 0, .slice none 0 0, .slice none 0 0] 85 (0, 0)) := by rw [hb2.block _ (Array.getElem?_eq_some_iff.1 HF1.out).1]; exact HF1.out
    have hcc0 : w2.cell? ⟨w.heap.size + 1, 0, none⟩ = some (.int .i64 0) := by rw [cell_of_row _ _ 0 _ _ _ hf2]; rfl
    have hff0 : w2.frozen? ⟨w.heap.size + 1, 0, none⟩ = false := by unfold World.frozen?; rw [hf2]; rfl
    have hcc1 : w2.cell? ⟨w.heap.size + 1, 1, none⟩ = some (.slice none 0 0) := by rw [cell_of_row _ _ 1 _ _ _ hf2]; rfl
    have hff1 : w2.frozen? ⟨w.heap.size + 1, 1, none⟩ = false := by unfold World.frozen?; rw [hf2]; rfl
    have hcc2 : w2.cell? ⟨w.heap.size + 1, 2, none⟩ = some (.slice none 0 0) := by rw [cell_of_row _ _ 2 _ _ _ hf2]; rfl
    have hff2 : w2.frozen? ⟨w.heap.size + 1, 2, none⟩ = false := by unfold World.frozen?; rw [hf2]; rfl
    have Hhin := Lib.hid hin
    have Hhdis := Lib.hid hdis
    have Hh := Lib.hid h
    have HF2 := Lib.hid hf2
    unfold er_v
    clear hb2 hf2 hin hdis h
    go_wp2_with fail
    refine bodyPost_ret (results_cell_row2 rfl _ _ (w.heap.size + 1) 85 #[.int .i64 0, .slice none 0 0, .slice none 0 0] (0, 0) _ rfl (fnd_set HF2.out _ _ _) Tryz.underlying85 rfl fnd_size) rfl ?_
    exact ⟨HB2.out.trans (fnd_below (by omega) _ _ _), .inr ⟨Hhin.out, .inr ⟨Hhdis.out, .inl ⟨Hh.out, rfl⟩⟩⟩⟩
  · rw [er_loc] at hx
    obtain ⟨o3, c3, rfl, hx⟩ := hx
    have hgl := loc_len n z
    have hrl := for_len s n z
    have HIN := Lib.hid hin
    have HDIS := Lib.hid hdis
    have HF2 : Hid (w2.heap[w.heap.size + 1]? = some (.cells #[.int .i64 0, .slice none 0 0, .slice none 0 0] 85 (0, 0))) := Lib.hid (by rw [hb2.block _ (Array.getElem?_eq_some_iff.1 HF1.out).1]; exact HF1.out)
    have HS2 : Hid (w2.heap[w.heap.size]? = some (.cells CS 81 (0, 0))) := Lib.hid (by rw [hb2.block _ (Array.getElem?_eq_some_iff.1 HS1.out).1]; exact HS1.out)
    have HFO := Lib.hid (cfor_any s (Gf.locL (xsL n z)) o3 c3 w2 hs hx (by omega) (by rw [loc_tr]; omega) (by rw [loc_tr]; omega) CS HCS.out)
    have HE3 : Hid ((∃ C L, RF (forL s (Gf.locL (xsL n z))) C L ∧ (32 < 2 * L + z.length ∨ (tr C).length ≤ L)) → Er.Six w2 A) := Lib.hid fun h => (HE2.out h).later hb2
    have hloceq : (tr (prodL (fun r => [1, r]) (xsL n z) z.length)).length = (Gf.locL (xsL n z)).length := by rw [er_loc]
    have HG2 := Lib.hid hx
    clear hin hdis hx hb2
    try rw [hloceq]
    clear hloceq
    have HGLEN := Lib.hid hgl
    obtain ⟨G, hG⟩ : ∃ G, Gf.locL (xsL n z) = G := ⟨_, rfl⟩
    rw [hG] at HFO HG2 HGLEN hrl HE3 HGW ⊢
    have HGEQ := Lib.hid hG
    clear hgl hG
    go_wp2_with (refine wpList_load_row rfl 81 (.tmp 3) rfl w.heap.size rfl 81 CS (0, 0) _ HS2.out csyn_under rfl HSZ.out ?_)
    refine HFO.out.mono ?_; rintro e w3 ⟨x, rfl, hx, hb⟩
    obtain ⟨o4, c4, rfl, hx⟩ := hx
    have HF3 : Hid (w3.heap[w.heap.size + 1]? = some (.cells #[.int .i64 0, .slice none 0 0, .slice none 0 0] 85 (0, 0))) := Lib.hid (by rw [hb.block _ (Array.getElem?_eq_some_iff.1 HF2.out).1]; exact HF2.out)
    have HS3 : Hid (w3.heap[w.heap.size]? = some (.cells CS 81 (0, 0))) := Lib.hid (by rw [hb.block _ (Array.getElem?_eq_some_iff.1 HS2.out).1]; exact HS2.out)
    have HB3 := Lib.hid (Kit.step HB2.out hb)
    have HG3 := Lib.hid (HG2.out.later hb)
    have HE4 : Hid ((∃ C L, RF (forL s G) C L ∧ (32 < 2 * L + z.length ∨ (tr C).length ≤ L)) → Er.Six w3 A) := Lib.hid fun h => (HE3.out h).later hb
    have HRG := Lib.hid (creg_any (forL s G) o4 c4 w3 hx (by omega))
    obtain ⟨R, hR⟩ : ∃ R, forL s G = R := ⟨_, rfl⟩
    rw [hR] at HRG hrl ⊢
    have HRL := Lib.hid hrl
    have HR := Lib.hid hR
    clear hx hb hR HFO hrl
    go_wp2_with fail
    refine HRG.out.mono ?_; rintro e w4 ⟨C, L, x, rfl, hx, hb, g1, g2, g3, g4⟩
    obtain ⟨o5, c5, rfl, hx⟩ := hx
    have HF4 : Hid (w4.heap[w.heap.size + 1]? = some (.cells #[.int .i64 0, .slice none 0 0, .slice none 0 0] 85 (0, 0))) := Lib.hid (by rw [hb.block _ (Array.getElem?_eq_some_iff.1 HF3.out).1]; exact HF3.out)
    have HS4 : Hid (w4.heap[w.heap.size]? = some (.cells CS 81 (0, 0))) := Lib.hid (by rw [hb.block _ (Array.getElem?_eq_some_iff.1 HS3.out).1]; exact HS3.out)
    have HB4 := Lib.hid (Kit.step HB3.out hb)
    have HG4 := Lib.hid (HG3.out.later hb)
    have HE5 : Hid ((∃ C L, RF (forL s G) C L ∧ (32 < 2 * L + z.length ∨ (tr C).length ≤ L)) → Er.Six w4 A) := Lib.hid fun h => (HE4.out h).later hb
    have HRF : Hid (RF (forL s G) C L) := Lib.hid (by rw [HR.out]; exact ⟨g1, g2, g3, g4⟩)
    have HX := Lib.hid hx
    have hLm : L ≤ 32 := by have := HRL.out; have := HRF.out.le; rw [HR.out] at this; omega
    have h2L : IntKind.i64.wrap (2 * (L : Int)) = 2 * (L : Int) := by rw [IntKind.wrap_i64]; omega
    have hdg := deg_any o5 (tr C) c5 w4 hx
    rw [← tr_length, tr_tr] at hdg
    have HDG := Lib.hid hdg
    have htc := tr_le C
    clear hx hb g1 g2 hdg HRG
    by_cases h2 : R.length < 2 * L
    · have hd2 : decide ((R.length : Int) < 2 * (L : Int)) = true := decide_eq_true (by omega)
      have HL : Hid (32 < 2 * L + z.length) := Lib.hid (by have := HRL.out; omega)
      have hcc0 : w4.cell? ⟨w.heap.size + 1, 0, none⟩ = some (.int .i64 0) := by rw [cell_of_row _ _ 0 _ _ _ HF4.out]; rfl
      have hff0 : w4.frozen? ⟨w.heap.size + 1, 0, none⟩ = false := by unfold World.frozen?; rw [HF4.out]; rfl
      have hcc1 : w4.cell? ⟨w.heap.size + 1, 1, none⟩ = some (.slice none 0 0) := by rw [cell_of_row _ _ 1 _ _ _ HF4.out]; rfl
      have hff1 : w4.frozen? ⟨w.heap.size + 1, 1, none⟩ = false := by unfold World.frozen?; rw [HF4.out]; rfl
      have hcc2 : w4.cell? ⟨w.heap.size + 1, 2, none⟩ = some (.slice none 0 0) := by rw [cell_of_row _ _ 2 _ _ _ HF4.out]; rfl
      have hff2 : w4.frozen? ⟨w.heap.size + 1, 2, none⟩ = false := by unfold World.frozen?; rw [HF4.out]; rfl
      have HLOST : Hid (∃ C L, RF (forL s G) C L ∧ (32 < 2 * L + z.length ∨ (tr C).length ≤ L)) := Lib.hid ⟨C, L, HRF.out, .inl HL.out⟩
      have hE16 := (HE5.out HLOST.out).c16
      have hgw := HGW.out HLOST.out
      have hne1 : ¬ 1 = w.heap.size + 1 := by omega
      have hne2 : ¬ w.heap.size + 1 = 1 := by omega
      clear h2
      go_wp2_with fail
      go_region
      go_wp2_with fail
      refine bodyPost_ret (results_cell_row2 rfl _ _ (w.heap.size + 1) 85 #[.int .i64 0, .slice none 0 0, .slice none 0 0] (0, 0) _ rfl (fnd_set HF4.out _ _ _) Tryz.underlying85 rfl fnd_size) rfl ?_
      have hrf := HRF.out
      rw [← HGEQ.out] at hrf
      exact ⟨Kit.dn (HB4.out.trans (fnd_below (by omega) _ _ _)) 1, .inr ⟨HIN.out, .inr ⟨HDIS.out, .inr ⟨h32, C, L, hrf, .inl ⟨.inl HL.out, rfl⟩⟩⟩⟩⟩
    · have hd2 : decide ((R.length : Int) < 2 * (L : Int)) = false := decide_eq_false (by omega)
      have HN2 : Hid (2 * L + z.length ≤ 32) := Lib.hid (by have := HRL.out; omega)
      clear h2
      go_wp2_with fail
      refine HDG.out.mono ?_; rintro e w5 ⟨rfl, hb⟩
      have HF5 : Hid (w5.heap[w.heap.size + 1]? = some (.cells #[.int .i64 0, .slice none 0 0, .slice none 0 0] 85 (0, 0))) := Lib.hid (by rw [hb.block _ (Array.getElem?_eq_some_iff.1 HF4.out).1]; exact HF4.out)
      have HS5 : Hid (w5.heap[w.heap.size]? = some (.cells CS 81 (0, 0))) := Lib.hid (by rw [hb.block _ (Array.getElem?_eq_some_iff.1 HS4.out).1]; exact HS4.out)
      have HB5 := Lib.hid (Kit.step HB4.out hb)
      have HX5 := Lib.hid (HX.out.later hb)
      have HG5 := Lib.hid (HG4.out.later hb)
      have HE6 : Hid ((∃ C L, RF (forL s G) C L ∧ (32 < 2 * L + z.length ∨ (tr C).length ≤ L)) → Er.Six w5 A) := Lib.hid fun h => (HE5.out h).later hb
      clear hb HDG
      by_cases h3 : (tr C).length ≤ L
      · have hd3 : decide (((tr C).length : Int) - 1 < (L : Int)) = true := decide_eq_true (by omega)
        have HL := Lib.hid h3
        have hcc0 : w5.cell? ⟨w.heap.size + 1, 0, none⟩ = some (.int .i64 0) := by rw [cell_of_row _ _ 0 _ _ _ HF5.out]; rfl
        have hff0 : w5.frozen? ⟨w.heap.size + 1, 0, none⟩ = false := by unfold World.frozen?; rw [HF5.out]; rfl
        have hcc1 : w5.cell? ⟨w.heap.size + 1, 1, none⟩ = some (.slice none 0 0) := by rw [cell_of_row _ _ 1 _ _ _ HF5.out]; rfl
        have hff1 : w5.frozen? ⟨w.heap.size + 1, 1, none⟩ = false := by unfold World.frozen?; rw [HF5.out]; rfl
        have hcc2 : w5.cell? ⟨w.heap.size + 1, 2, none⟩ = some (.slice none 0 0) := by rw [cell_of_row _ _ 2 _ _ _ HF5.out]; rfl
        have hff2 : w5.frozen? ⟨w.heap.size + 1, 2, none⟩ = false := by unfold World.frozen?; rw [HF5.out]; rfl
        have HLOST : Hid (∃ C L, RF (forL s G) C L ∧ (32 < 2 * L + z.length ∨ (tr C).length ≤ L)) := Lib.hid ⟨C, L, HRF.out, .inr HL.out⟩
        have hE16 := (HE6.out HLOST.out).c16
        have hgw := HGW.out HLOST.out
        have hne1 : ¬ 1 = w.heap.size + 1 := by omega
        have hne2 : ¬ w.heap.size + 1 = 1 := by omega
        clear h3
        go_wp2_with fail
        go_region
        go_wp2_with fail
        refine bodyPost_ret (results_cell_row2 rfl _ _ (w.heap.size + 1) 85 #[.int .i64 0, .slice none 0 0, .slice none 0 0] (0, 0) _ rfl (fnd_set HF5.out _ _ _) Tryz.underlying85 rfl fnd_size) rfl ?_
        have hrf := HRF.out
        rw [← HGEQ.out] at hrf
        exact ⟨Kit.dn (HB5.out.trans (fnd_below (by omega) _ _ _)) 1, .inr ⟨HIN.out, .inr ⟨HDIS.out, .inr ⟨h32, C, L, hrf, .inl ⟨.inr HL.out, rfl⟩⟩⟩⟩⟩
      · have hd3 : decide (((tr C).length : Int) - 1 < (L : Int)) = false := decide_eq_false (by omega)
        have HN3 : Hid (L < (tr C).length) := Lib.hid (by omega)
        have HMU := Lib.hid (mul_poly_any (tr C) G o5 o3 c5 c3 w5 HX5.out HG5.out (by have := HGLEN.out; have := HRF.out.len; omega))
        have HML : Hid ((tr (mulL (tr C) G)).length ≤ 1000) := Lib.hid (by
          have h5 := tr_le (mulL (tr C) G)
          have h6 : (mulL (tr C) G).length = (tr C).length + G.length := by simp [mulL]
          have := HGLEN.out
          have := HRF.out.len
          omega)
        obtain ⟨M, hM⟩ : ∃ M, tr (mulL (tr C) G) = M := ⟨_, rfl⟩
        rw [hM] at HMU HML
        have HMEQ := Lib.hid hM
        clear h3 hM
        go_wp2_with fail
        refine HMU.out.mono ?_; rintro e w6 ⟨g6, c6, rfl, hg6, hb, hr⟩
        have HF6 : Hid (w6.heap[w.heap.size + 1]? = some (.cells #[.int .i64 0, .slice none 0 0, .slice none 0 0] 85 (0, 0))) := Lib.hid (by rw [hb.block _ (Array.getElem?_eq_some_iff.1 HF5.out).1]; exact HF5.out)
        have HS6 : Hid (w6.heap[w.heap.size]? = some (.cells CS 81 (0, 0))) := Lib.hid (by rw [hb.block _ (Array.getElem?_eq_some_iff.1 HS5.out).1]; exact HS5.out)
        have HB6 := Lib.hid (Kit.step HB5.out hb)
        have HR6 := Lib.hid hr
        have hpo := spoly_any s hs w6
        rw [HCS.out] at hpo
        have HPO := Lib.hid hpo
        clear hb hr hg6 HMU hpo
        go_wp2_with (refine wpList_load_row rfl 81 (.tmp 3) rfl w.heap.size rfl 81 CS (0, 0) _ HS6.out csyn_under rfl HSZ.out ?_)
        refine HPO.out.mono ?_; rintro e w7 ⟨x, rfl, hx, hb⟩
        obtain ⟨o7, c7, rfl, hx⟩ := hx
        have HF7 : Hid (w7.heap[w.heap.size + 1]? = some (.cells #[.int .i64 0, .slice none 0 0, .slice none 0 0] 85 (0, 0))) := Lib.hid (by rw [hb.block _ (Array.getElem?_eq_some_iff.1 HF6.out).1]; exact HF6.out)
        have HS7 : Hid (w7.heap[w.heap.size]? = some (.cells CS 81 (0, 0))) := Lib.hid (by rw [hb.block _ (Array.getElem?_eq_some_iff.1 HS6.out).1]; exact HS6.out)
        have HB7 := Lib.hid (Kit.step HB6.out hb)
        have HR7 := Lib.hid (HR6.out.later hb)
        have HMU2 := Lib.hid (mul_poly_any (tr s) M o7 (some ⟨g6, 0, none⟩) c7 c6 w7 hx (HR6.out.later hb) (by have := tr_le s; have := HML.out; omega))
        have HPL : Hid ((tr (mulL (tr s) M)).length ≤ 2000) := Lib.hid (by
          have h5 := tr_le (mulL (tr s) M)
          have h6 : (mulL (tr s) M).length = (tr s).length + M.length := by simp [mulL]
          have := tr_le s
          have := HML.out
          omega)
        obtain ⟨P, hP⟩ : ∃ P, tr (mulL (tr s) M) = P := ⟨_, rfl⟩
        rw [hP] at HMU2 HPL
        have HPEQ := Lib.hid hP
        clear hx hb hP HPO
        go_wp2_with fail
        refine HMU2.out.mono ?_; rintro e w8 ⟨g8, c8, rfl, hg8, hb, hr⟩
        have HF8 : Hid (w8.heap[w.heap.size + 1]? = some (.cells #[.int .i64 0, .slice none 0 0, .slice none 0 0] 85 (0, 0))) := Lib.hid (by rw [hb.block _ (Array.getElem?_eq_some_iff.1 HF7.out).1]; exact HF7.out)
        have HS8 : Hid (w8.heap[w.heap.size]? = some (.cells CS 81 (0, 0))) := Lib.hid (by rw [hb.block _ (Array.getElem?_eq_some_iff.1 HS7.out).1]; exact HS7.out)
        have HB8 := Lib.hid (Kit.step HB7.out hb)
        have HR8 := Lib.hid (HR7.out.later hb)
        have HLW := Lib.hid (low_any P 32 (some ⟨g8, 0, none⟩) c8 w8 hr (by have := HPL.out; omega))
        clear hb hr hg8 HMU2
        go_wp2_with fail
        refine HLW.out.mono ?_; rintro e w9 ⟨x, rfl, hx, hb⟩
        obtain ⟨o9, c9, rfl, hx⟩ := hx
        have HF9 : Hid (w9.heap[w.heap.size + 1]? = some (.cells #[.int .i64 0, .slice none 0 0, .slice none 0 0] 85 (0, 0))) := Lib.hid (by rw [hb.block _ (Array.getElem?_eq_some_iff.1 HF8.out).1]; exact HF8.out)
        have HS9 : Hid (w9.heap[w.heap.size]? = some (.cells CS 81 (0, 0))) := Lib.hid (by rw [hb.block _ (Array.getElem?_eq_some_iff.1 HS8.out).1]; exact HS8.out)
        have HB9 := Lib.hid (Kit.step HB8.out hb)
        have HR9 := Lib.hid (HR8.out.later hb)
        have HX9 := Lib.hid hx
        have hcc0 : w9.cell? ⟨w.heap.size + 1, 0, none⟩ = some (.int .i64 0) := by rw [cell_of_row _ _ 0 _ _ _ HF9.out]; rfl
        have hff0 : w9.frozen? ⟨w.heap.size + 1, 0, none⟩ = false := by unfold World.frozen?; rw [HF9.out]; rfl
        have hcc1 : w9.cell? ⟨w.heap.size + 1, 1, none⟩ = some (.slice none 0 0) := by rw [cell_of_row _ _ 1 _ _ _ HF9.out]; rfl
        have hff1 : w9.frozen? ⟨w.heap.size + 1, 1, none⟩ = false := by unfold World.frozen?; rw [HF9.out]; rfl
        have hcc2 : w9.cell? ⟨w.heap.size + 1, 2, none⟩ = some (.slice none 0 0) := by rw [cell_of_row _ _ 2 _ _ _ HF9.out]; rfl
        have hff2 : w9.frozen? ⟨w.heap.size + 1, 2, none⟩ = false := by unfold World.frozen?; rw [HF9.out]; rfl
        clear hx hb HLW
        obtain ⟨V, hV⟩ : ∃ V, tr (P.take (lowN 32 P.length)) = V := ⟨_, rfl⟩
        rw [hV] at HX9 ⊢
        have HVEQ := Lib.hid hV
        clear hV
        go_wp2_with fail
        refine bodyPost_ret (results_cell_row2 rfl _ _ (w.heap.size + 1) 85 #[.int .i64 (L : Int), .slice (some ⟨g6, 0, none⟩) M.length c6, .slice o9 V.length c9] (0, 0) _ rfl (fnd_set HF9.out _ _ _) Tryz.underlying85 rfl fnd_size) rfl ?_
        have hrf := HRF.out
        rw [← HGEQ.out] at hrf
        have hmeq : ertL C n z = M := by unfold ertL; rw [HGEQ.out]; exact HMEQ.out
        have hveq : evaL s C n z = V := by unfold evaL; rw [hmeq, HPEQ.out]; exact HVEQ.out
        refine ⟨HB9.out.trans (fnd_below (by omega) _ _ _), .inr ⟨HIN.out, .inr ⟨HDIS.out, .inr ⟨h32, C, L, hrf, .inr ⟨HN2.out, HN3.out, _, _, rfl, ?_, ?_⟩⟩⟩⟩⟩
        · rw [hmeq]
          exact ⟨_, _, rfl, fnd_row HF9.out HR9.out _ _ _⟩
        · rw [hveq]
          exact ⟨_, _, rfl, fnd_row HF9.out HX9.out _ _ _⟩
end Go.Proofs.YtgifbpjmblemhaaGreatDoor
namespace Go.Proofs.YtgifbpjmblemhaaGreatDoor
open Go.RowKit
set_option linter.unusedVariables false
set_option linter.unusedSimpArgs false
theorem fz_one {C : List UInt8} (h1 : co C 0 = 1) (h2 : C.length ≤ 1) : tr C = [1] := by
  have h3 := co_lt (ys := C) (i := 0) (by rw [h1]; decide)
  have h4 : C = [1] := list_ext (by simp; omega) fun i hi => by
    obtain rfl : i = 0 := by omega
    rw [h1]; rfl
  rw [h4]; rfl
/-- where nothing is wrong the shortest register has no numbers -/
theorem zero_reg {R C : List UInt8} {L : Nat} (h : RF R C L) (h0 : ∀ i, i < R.length → co R i = 0) : L = 0 ∧ tr C = [1] := by
  have h1 := h.least (co [1]) 0 ⟨rfl, fun i _ hi => by
    show Gf.sm (fun j => Gf.gm (co [1] j) (co R (i - j))) 1 = 0
    show (0 : UInt8) ^^^ Gf.gm (co [1] 0) (co R (i - 0)) = 0
    rw [Nat.sub_zero, h0 i hi, Gf.gm_zero]; rfl⟩
  have h2 := h.len
  exact ⟨by omega, fz_one h.run.one (by omega)⟩
theorem co_for (s g : List UInt8) (i : Nat) (h : i < (forL s g).length) : co (forL s g) i = co (mulL s g) ((tr g).length - 1 + i) := by
  unfold forL at h ⊢
  rw [tab_length] at h
  exact co_tab _ _ _ h
theorem for_zero (g : List UInt8) (i : Nat) (h : i < (forL zsyn g).length) : co (forL zsyn g) i = 0 := by
  rw [co_for _ _ _ h, co_mulL']
  exact Gf.sm_zero fun j _ => by rw [zsyn, zeros_co, Gf.zero_gm]
theorem cfi_zero (CS : Array Value) (hCS : (bytesV zsyn).toArray = CS) (w : World) :
    Calls Tryz.prog 38 #[.agg CS, .int .i64 40, .slice none 0 0] w fun e w' => ∃ x1 x2, e = .returned (.tuple #[.agg #[.int .i64 0, x1, x2], .nilIface]) ∧ RowV [1] x1 w' ∧ (∃ o l c, x2 = .slice o l c) ∧ Below w.heap.size w w' := by
  have hok : EOk 40 [] := ⟨fun k h => absurd h (by simp), fun i j _ h => absurd h (by simp), by simp⟩
  have hz : ∀ C L, RF (forL zsyn (Gf.locL (xsL 40 []))) C L → L = 0 ∧ tr C = [1] := fun C L h => zero_reg h fun i hi => for_zero _ i hi
  have h := cfi_any zsyn [] 40 0 none w (fun _ => ⟨0, 0, none⟩) (by simp [zsyn]) ⟨by simp, by simp, fun _ => rfl, fun h => by simp at h⟩ (by omega) (by omega) (by simp) (fun h => absurd hok h)
    (fun ⟨C, L, h1, h2⟩ => by
      obtain ⟨rfl, h4⟩ := hz C L h1
      rw [h4] at h2
      simp at h2) CS hCS
  refine h.mono ?_
  rintro e w' ⟨hb, ⟨⟨k, hk, _⟩, _⟩ | ⟨_, ⟨⟨i, j, _, hi, _⟩, _⟩ | ⟨_, ⟨h, _⟩ | ⟨_, C, L, hrf, ⟨h2, _⟩ | ⟨_, _, x1, x2, rfl, hx, o2, c2, rfl, _⟩⟩⟩⟩⟩
  · exact absurd hk (by simp)
  · exact absurd hi (by simp)
  · exact absurd h (by simp)
  · obtain ⟨rfl, h4⟩ := hz C L hrf
    rw [h4] at h2
    simp at h2
  · obtain ⟨rfl, h4⟩ := hz C L hrf
    have e : ertL C 40 [] = [1] := by
      unfold ertL
      rw [h4]
      decide +kernel
    exact ⟨x1, _, rfl, (congrArg (fun q => RowV q x1 w') e).mp hx, ⟨_, _, _, rfl⟩, hb⟩
end Go.Proofs.YtgifbpjmblemhaaGreatDoor
namespace Go.Proofs.YtgifbpjmblemhaaGreatDoor
open Go.RowKit
set_option linter.unusedVariables false
set_option linter.unusedSimpArgs false
theorem does_load_row4 {P : Program} {G : Nat → Value → World → Prop} {Q : Exit → Act → World → Prop} {i : Nat} {o : Oper} {b : Act} {v : World} {x : Operand} {ty t : TypeId} {g : Nat} {cs : Array Value} {fr : Nat × Nat} {d : TypeDesc} (ho : o.op = .load ty x) (hx : b.eval x = .pointer (some ⟨g, 0, none⟩))
    (hg : v.heap[g]? = some (.cells cs t fr)) (hu : P.underlying ty = some d) (hd : (match d with | .struct _ | .array _ _ => true | _ => false) = true) (hi : (P.info? ty).map (·.size) = some cs.size) (hG : G i (.agg cs) v) : Rg.Does P G Q i o b v :=
  Rg.does_pure _ (by simp only [execOp, ho, hx, Instr.loadAt, Instr.sureAddr, Sem.run_bind, Sem.run_pure, Result.andThen_ok, run_loadVar_row v g t ty cs fr d hg hu hd hi]) hG
theorem arr_size {ys : List UInt8} (h : ys.length = 32) : (Tryz.prog.info? 70).map (·.size) = some (bytesV ys).toArray.size := by
  rw [show (bytesV ys).toArray.size = 32 by simp [h]]; kernel_rfl
theorem arr_under : Tryz.prog.underlying 70 = some (.array 32 5) := by kernel_rfl
set_option maxRecDepth 100000 in
set_option maxHeartbeats 4000000 in
theorem cfi_size (m c : Nat) (o : Option Addr) (n : Int) (w : World) (A : Nat → Addr) (hE : Er.Six w A) (h : ¬ (33 ≤ n ∧ n ≤ 255)) (CS : Array Value) :
    Calls Tryz.prog 38 #[.agg CS, .int .i64 n, .slice o m c] w fun e w' => e = fe_v A 7 ∧ Below w.heap.size w w' := by
  obtain ⟨w1, hw1⟩ : ∃ w1, (w.alloc (.cells CS 81)).alloc (.cells #[.int .i64 0, .slice none 0 0, .slice none 0 0] 85) = w1 := ⟨_, rfl⟩
  have hb1 : Below w.heap.size w w1 := by rw [← hw1]; exact ((Below.refl _ _).alloc (Nat.le_refl _) _).alloc (by simp) _
  have hf1 : w1.heap[w.heap.size + 1]? = some (.cells #[.int .i64 0, .slice none 0 0, .slice none 0 0] 85 (0, 0)) := by
    have := World.alloc_heap_new (w.alloc (.cells CS 81)) (.cells #[.int .i64 0, .slice none 0 0, .slice none 0 0] 85)
    rw [hw1, World.size_alloc] at this
    exact this
  have HER := Lib.hid (cer_size m c o n w1 A (hE.later hb1) h)
  have HB1 := Lib.hid hb1
  have HF1 := Lib.hid hf1
  have HW1 := Lib.hid hw1
  rw [← hw1] at HER
  clear hE hb1 hf1 hw1 h
  go_enter Tryz.func38, Tryz.ntmps38
  go_wp2_with fail
  refine HER.out.mono ?_; rintro e w2 ⟨rfl, hb2⟩
  rw [HW1.out] at hb2
  have HB2 := Lib.hid (Kit.step HB1.out hb2)
  have hf2 : w2.heap[w.heap.size + 1]? = some (.cells #[.int .i64 0, .slice none 0 0, .slice none 0 0] 85 (0, 0)) := by rw [hb2.block _ (Array.getElem?_eq_some_iff.1 HF1.out).1]; exact HF1.out
  have hcc0 : w2.cell? ⟨w.heap.size + 1, 0, none⟩ = some (.int .i64 0) := by rw [cell_of_row _ _ 0 _ _ _ hf2]; rfl
  have hff0 : w2.frozen? ⟨w.heap.size + 1, 0, none⟩ = false := by unfold World.frozen?; rw [hf2]; rfl
  have hcc1 : w2.cell? ⟨w.heap.size + 1, 1, none⟩ = some (.slice none 0 0) := by rw [cell_of_row _ _ 1 _ _ _ hf2]; rfl
  have hff1 : w2.frozen? ⟨w.heap.size + 1, 1, none⟩ = false := by unfold World.frozen?; rw [hf2]; rfl
  have hcc2 : w2.cell? ⟨w.heap.size + 1, 2, none⟩ = some (.slice none 0 0) := by rw [cell_of_row _ _ 2 _ _ _ hf2]; rfl
  have hff2 : w2.frozen? ⟨w.heap.size + 1, 2, none⟩ = false := by unfold World.frozen?; rw [hf2]; rfl
  have HF2 := Lib.hid hf2
  unfold er_v
  clear hb2 hf2 HER
  go_wp2_with fail
  refine bodyPost_ret (results_cell_row2 rfl _ _ (w.heap.size + 1) 85 #[.int .i64 0, .slice none 0 0, .slice none 0 0] (0, 0) _ rfl (fnd_set HF2.out _ _ _) Tryz.underlying85 rfl fnd_size) rfl ?_
  exact ⟨rfl, HB2.out.trans (fnd_below (by omega) _ _ _)⟩
/-- the same error -/
structure ErBad (n : Int) (z : List Int) (A : Nat → Addr) (a : Nat) : Prop where
  lt : a < 20
  code : ∀ (v : World) (o : Option Addr) (c : Nat), RowIs v o (intsV z) c → Er.Six v A → Calls Tryz.prog 56 #[.int .i64 n, .slice o z.length c] v fun e w' => e = er_v A a ∧ Below v.heap.size v w'
  ref : ∀ (v : World) (o : Option Addr) (c : Nat), RowIs v o (intsV z) c → Calls Tryz.prog 30 #[.int .i64 n, .slice o z.length c] v fun e w' => e = .returned (.tuple #[.slice none 0 0, .int .i64 ((a + 1 : Nat) : Int)]) ∧ Below v.heap.size v w'
  find : ∀ (s : List UInt8) (v : World) (o : Option Addr) (c : Nat), s.length = 32 → RowIs v o (intsV z) c → Er.Six v A → Calls Tryz.prog 38 #[.agg (bytesV s).toArray, .int .i64 n, .slice o z.length c] v fun e w' => e = fe_v A a ∧ Below v.heap.size v w'
/-- both the locator -/
structure ErGood (m : Nat) (z : List Int) : Prop where
  lo : 33 ≤ m
  hi : m ≤ 255
  ok : EOk m z
  code : ∀ (v : World) (o : Option Addr) (c : Nat), RowIs v o (intsV z) c → Calls Tryz.prog 56 #[.int .i64 m, .slice o z.length c] v fun e w' => ∃ x, e = .returned (.tuple #[x, .nilIface]) ∧ RowV (Gf.locL (xsL m z)) x w' ∧ Below v.heap.size v w'
  ref : ∀ (v : World) (o : Option Addr) (c : Nat), RowIs v o (intsV z) c → Calls Tryz.prog 30 #[.int .i64 m, .slice o z.length c] v fun e w' => ∃ x, e = .returned (.tuple #[x, .int .i64 0]) ∧ RowV (Gf.locL (xsL m z)) x w' ∧ Below v.heap.size v w'
theorem er_good (m : Nat) (z : List Int) (h1 : 33 ≤ m) (h2 : m ≤ 255) (hl : z.length ≤ 900) (hz : ∀ k, k < z.length → -9223372036854775808 ≤ ci z k ∧ ci z k ≤ 9223372036854775807) (hok : EOk m z) : ErGood m z := by
  refine ⟨h1, h2, hok, fun v o c hr => ?_, fun v o c hr => ?_⟩
  · refine (cer_any z m c o v (fun _ => ⟨0, 0, none⟩) hr h1 h2 hl (fun h => absurd hok h)).mono ?_
    rintro e w' ⟨hb, ⟨⟨k, hk, h⟩, _⟩ | ⟨_, ⟨⟨i, j, hj, hi, h⟩, _⟩ | ⟨_, ⟨h, _⟩ | ⟨_, x, rfl, hx⟩⟩⟩⟩
    · have := hok.1 k hk; omega
    · exact absurd h (hok.2.1 i j hj hi)
    · have := hok.2.2; omega
    · rw [er_loc] at hx
      exact ⟨x, rfl, hx, hb⟩
  · refine (res_any z m c o v hr h1 h2 (by omega) hz).mono ?_
    rintro e w' ⟨hb, ⟨⟨k, hk, h⟩, _⟩ | ⟨_, ⟨⟨i, j, hj, hi, h⟩, _⟩ | ⟨_, ⟨h, _⟩ | ⟨_, x, rfl, hx⟩⟩⟩⟩
    · have := hok.1 k hk; omega
    · exact absurd h (hok.2.1 i j hj hi)
    · have := hok.2.2; omega
    · rw [er_loc] at hx
      exact ⟨x, rfl, hx, hb⟩
theorem er_both (n : Int) (z : List Int) (A : Nat → Addr) (hl : z.length ≤ 900) (hz : ∀ k, k < z.length → -9223372036854775808 ≤ ci z k ∧ ci z k ≤ 9223372036854775807) :
    (∃ a, ErBad n z A a) ∨ ∃ m : Nat, n = (m : Int) ∧ ErGood m z := by
  by_cases hn : 33 ≤ n ∧ n ≤ 255
  · obtain ⟨m, rfl⟩ := Int.eq_ofNat_of_zero_le (show 0 ≤ n by omega)
    have h1 : 33 ≤ m := by omega
    have h2 : m ≤ 255 := by omega
    by_cases hbad : ∃ k, k < z.length ∧ (ci z k < 0 ∨ (m : Int) ≤ ci z k)
    · obtain ⟨k, hk, hkb⟩ := hbad
      refine .inl ⟨0, by omega, fun v o c hr hE => (cer_any z m c o v A hr h1 h2 hl (fun _ => hE)).mono ?_, fun v o c hr => (res_any z m c o v hr h1 h2 (by omega) hz).mono ?_, fun s v o c hs hr hE => (cfi_any s z m c o v A hs hr h1 h2 hl (fun _ => hE) (fun _ => hE) _ rfl).mono ?_⟩
      · rintro e w' ⟨hb, ⟨_, rfl⟩ | ⟨hin, _⟩⟩
        · exact ⟨rfl, hb⟩
        · have := hin k hk; omega
      · rintro e w' ⟨hb, ⟨_, rfl⟩ | ⟨hin, _⟩⟩
        · exact ⟨rfl, hb⟩
        · have := hin k hk; omega
      · rintro e w' ⟨hb, ⟨_, rfl⟩ | ⟨hin, _⟩⟩
        · exact ⟨rfl, hb⟩
        · have := hin k hk; omega
    · by_cases hdup : ∃ i j, j < i ∧ i < z.length ∧ ci z i = ci z j
      · obtain ⟨i, j, hj, hi, hij⟩ := hdup
        refine .inl ⟨9, by omega, fun v o c hr hE => (cer_any z m c o v A hr h1 h2 hl (fun _ => hE)).mono ?_, fun v o c hr => (res_any z m c o v hr h1 h2 (by omega) hz).mono ?_, fun s v o c hs hr hE => (cfi_any s z m c o v A hs hr h1 h2 hl (fun _ => hE) (fun _ => hE) _ rfl).mono ?_⟩
        · rintro e w' ⟨hb, ⟨hx, _⟩ | ⟨_, ⟨_, rfl⟩ | ⟨hd, _⟩⟩⟩
          · exact absurd hx hbad
          · exact ⟨rfl, hb⟩
          · exact absurd hij (hd i j hj hi)
        · rintro e w' ⟨hb, ⟨hx, _⟩ | ⟨_, ⟨_, rfl⟩ | ⟨hd, _⟩⟩⟩
          · exact absurd hx hbad
          · exact ⟨rfl, hb⟩
          · exact absurd hij (hd i j hj hi)
        · rintro e w' ⟨hb, ⟨hx, _⟩ | ⟨_, ⟨_, rfl⟩ | ⟨hd, _⟩⟩⟩
          · exact absurd hx hbad
          · exact ⟨rfl, hb⟩
          · exact absurd hij (hd i j hj hi)
      · by_cases h32 : 32 < z.length
        · refine .inl ⟨15, by omega, fun v o c hr hE => (cer_any z m c o v A hr h1 h2 hl (fun _ => hE)).mono ?_, fun v o c hr => (res_any z m c o v hr h1 h2 (by omega) hz).mono ?_, fun s v o c hs hr hE => (cfi_any s z m c o v A hs hr h1 h2 hl (fun _ => hE) (fun _ => hE) _ rfl).mono ?_⟩
          · rintro e w' ⟨hb, ⟨hx, _⟩ | ⟨_, ⟨hx, _⟩ | ⟨_, ⟨_, rfl⟩ | ⟨hle, _⟩⟩⟩⟩
            · exact absurd hx hbad
            · exact absurd hx hdup
            · exact ⟨rfl, hb⟩
            · omega
          · rintro e w' ⟨hb, ⟨hx, _⟩ | ⟨_, ⟨hx, _⟩ | ⟨_, ⟨_, rfl⟩ | ⟨hle, _⟩⟩⟩⟩
            · exact absurd hx hbad
            · exact absurd hx hdup
            · exact ⟨rfl, hb⟩
            · omega
          · rintro e w' ⟨hb, ⟨hx, _⟩ | ⟨_, ⟨hx, _⟩ | ⟨_, ⟨_, rfl⟩ | ⟨hle, _⟩⟩⟩⟩
            · exact absurd hx hbad
            · exact absurd hx hdup
            · exact ⟨rfl, hb⟩
            · omega
        · refine .inr ⟨m, rfl, er_good m z h1 h2 hl hz ⟨fun k hk => ?_, fun i j hj hi h => hdup ⟨i, j, hj, hi, h⟩, by omega⟩⟩
          have h : ¬ (ci z k < 0 ∨ (m : Int) ≤ ci z k) := fun h => hbad ⟨k, hk, h⟩
          omega
  · refine .inl ⟨7, by omega, fun v o c hr hE => cer_size z.length c o n v A hE hn, fun v o c hr => ?_, fun s v o c hs hr hE => cfi_size z.length c o n v A hE hn _⟩
    refine (res_size z.length c o n v hn (by omega)).mono ?_
    rintro e w' ⟨rfl, rfl⟩
    exact ⟨rfl, Below.refl _ _⟩
end Go.Proofs.YtgifbpjmblemhaaGreatDoor
namespace Go.Proofs.YtgifbpjmblemhaaGreatDoor
set_option linter.unusedVariables false
theorem co_sumW4 (a b : List UInt8) (h : a.length = b.length) (p : Nat) : co (Gf.sumW a b) p = co a p ^^^ co b p := by
  by_cases hp : p < a.length
  · simp only [co, Gf.sumW, List.getD_eq_getElem?_getD, List.getElem?_zipWith]
    rw [List.getElem?_eq_getElem hp, List.getElem?_eq_getElem (by omega)]
    rfl
  · rw [co_ge (by simp [Gf.sumW]; omega), co_ge (by omega), co_ge (by omega)]; rfl
theorem sum_ne {a b : List UInt8} (h : a.length = b.length) (p : Nat) : co (Gf.sumW a b) p ≠ 0 ↔ co b p ≠ co a p := by
  rw [co_sumW4 a b h]
  constructor
  · intro h1 h2
    exact h1 (by rw [h2, UInt8.xor_self])
  · intro h1 h2
    exact h1 (Gf.xor_eq_zero _ _ h2).symm
theorem mem_xsL {n p : Nat} {z : List Int} (hn : n ≤ 255) (hp : p < n) (hz : ∀ k, k < z.length → 0 ≤ ci z k ∧ ci z k < n) : Gf.al (n - 1 - p) ∈ xsL n z ↔ (p : Int) ∈ z := by
  have hz2 : ∀ q ∈ z, 0 ≤ q ∧ q < n := fun q hq => by
    obtain ⟨k, hk, rfl⟩ := List.getElem_of_mem hq
    have := hz k hk
    unfold ci at this
    rw [List.getD_eq_getElem?_getD, List.getElem?_eq_getElem hk] at this
    exact this
  constructor
  · intro h
    obtain ⟨q, hq, he⟩ := List.mem_map.1 h
    have h1 := hz2 q hq
    have h2 := (Gf.al_inj _ _).1 he
    have : q = (p : Int) := by omega
    rw [← this]; exact hq
  · intro h
    exact List.mem_map.2 ⟨(p : Int), h, by simp⟩
structure Chg (v W : List UInt8) (n : Nat) (z : List Int) (H : List Nat) : Prop where
  code : IsCode v
  lv : v.length = n
  lw : W.length = n
  hn : n ≤ 255
  ok : EOk n z
  nd : H.Nodup
  mem : ∀ p ∈ H, p < n ∧ co W p ≠ co v p ∧ (p : Int) ∉ z
  all : ∀ p, p < n → co W p ≠ co v p → (p : Int) ∉ z → p ∈ H
  few : 2 * H.length + z.length ≤ 32
def othY (v W : List UInt8) (n : Nat) (z : List Int) : List UInt8 := (Gf.oth (xsL n z) (Gf.sumW v W)).map (·.2)
theorem Chg.reg {v W C : List UInt8} {n L : Nat} {z : List Int} {H : List Nat} (h : Chg v W n z H) (hrf : RF (forL (synL W) (Gf.locL (xsL n z))) C L) :
    L = H.length ∧ ∀ j, co C j = co (Gf.locL (othY v W n z)) j := by
  have hvw : v.length = W.length := by rw [h.lv, h.lw]
  have hdl : (Gf.sumW v W).length = n := by simp [Gf.sumW, h.lv, h.lw]
  have hel : (xsL n z).length = z.length := by simp [xsL]
  have hfl := for_len (synL W) n z
  have h32 := h.ok.2.2
  have hle := Gf.oth_le (xsL n z) (Gf.sumW v W) (by rw [hdl]; exact h.hn) H fun p hp hc hx => by
    rw [hdl] at hp hx
    refine h.all p hp ((sum_ne hvw p).1 hc) fun hm => hx ((mem_xsL h.hn hp h.ok.1).2 hm)
  have hge := Gf.oth_ge (xsL n z) (Gf.sumW v W) (by rw [hdl]; exact h.hn) H h.nd fun p hp => by
    obtain ⟨h1, h2, h3⟩ := h.mem p hp
    rw [hdl]
    exact ⟨h1, (sum_ne hvw p).2 h2, fun hm => h3 ((mem_xsL h.hn h1 h.ok.1).1 hm)⟩
  have hfew := h.few
  have hrun := hrf.run
  have hlst := hrf.least
  rw [hfl] at hrun hlst
  have := Gf.oth_reg (xsL n z) (Gf.sumW v W) (synL W) (Gf.locL (xsL n z)) _ C L (32 - z.length) (by rw [hdl]; exact h.hn) (fun _ => rfl) (fun j hj => by
      rw [synL, co_tab _ _ _ hj, Gf.hv_sum _ _ _ hvw, h.code j hj, UInt8.zero_xor]) (by rw [hel]; omega) (fun i hi => by
      rw [co_for _ _ _ (by rw [hfl]; exact hi), loc_tr, loc_len, Nat.add_sub_cancel, hel]) (by omega) hrun hlst hrf.len
  exact ⟨by omega, this.2⟩
theorem Chg.len {v W C : List UInt8} {n L : Nat} {z : List Int} {H : List Nat} (h : Chg v W n z H) (hrf : RF (forL (synL W) (Gf.locL (xsL n z))) C L) : (tr C).length = L + 1 := by
  obtain ⟨h1, h2⟩ := h.reg hrf
  have e : tr C = Gf.locL (othY v W n z) := by
    rw [← Gf.tr_loc (othY v W n z) (Gf.oth_ne _ _)]
    exact tr_congr h2
  have h3 := hrf.len
  have h4 := tr_le C
  have hvw : v.length = W.length := by rw [h.lv, h.lw]
  have hdl : (Gf.sumW v W).length = n := by simp [Gf.sumW, h.lv, h.lw]
  have hge := Gf.oth_ge (xsL n z) (Gf.sumW v W) (by rw [hdl]; exact h.hn) H h.nd fun p hp => by
    obtain ⟨h1, h2, h3⟩ := h.mem p hp
    rw [hdl]
    exact ⟨h1, (sum_ne hvw p).2 h2, fun hm => h3 ((mem_xsL h.hn h1 h.ok.1).1 hm)⟩
  have h5 : (tr C).length = (othY v W n z).length + 1 := by rw [e, Gf.locL_length]
  have h6 : (othY v W n z).length = (Gf.oth (xsL n z) (Gf.sumW v W)).length := by simp [othY]
  omega
/-- which values' inverses are roots of the errata locator -/
theorem Chg.root {v W C : List UInt8} {n L : Nat} {z : List Int} {H : List Nat} (h : Chg v W n z H) (hrf : RF (forL (synL W) (Gf.locL (xsL n z))) C L) (p : Nat) (hp : p < n) (y : UInt8) (hy : Gf.gm (Gf.al (n - 1 - p)) y = 1) :
    evL (ertL C n z) y = 0 ↔ ((p : Int) ∈ z ∨ p ∈ H) := by
  obtain ⟨h1, h2⟩ := h.reg hrf
  have hvw : v.length = W.length := by rw [h.lv, h.lw]
  have hdl : (Gf.sumW v W).length = n := by simp [Gf.sumW, h.lv, h.lw]
  have hz : ∀ ys : List UInt8, evL (Gf.locL ys) y = 0 ↔ Gf.al (n - 1 - p) ∈ ys := fun ys => by
    rw [← Gf.hv_locL, Gf.hv_ev _ _ _ hy (by rw [Gf.locL_length]; omega)]
    rw [Gf.gm_eq_zero _ _ (Gf.px_ne (Gf.al_ne _) _)]
  have e1 : evL (tr C) y = evL (Gf.locL (othY v W n z)) y := by
    rw [evL_tr]; exact evL_congr h2 y
  unfold ertL
  rw [evL_tr, evL_mul, e1]
  have e2 : Gf.gm (evL (Gf.locL (othY v W n z)) y) (evL (Gf.locL (xsL n z)) y) = 0 ↔ evL (Gf.locL (othY v W n z)) y = 0 ∨ evL (Gf.locL (xsL n z)) y = 0 := by
    constructor
    · intro h
      by_cases h0 : evL (Gf.locL (othY v W n z)) y = 0
      · exact .inl h0
      · exact .inr ((Gf.gm_eq_zero _ _ h0).1 h)
    · rintro (h | h)
      · rw [h, Gf.zero_gm]
      · rw [h, Gf.gm_zero]
  rw [e2, hz, hz, mem_xsL h.hn hp h.ok.1]
  have e3 : Gf.al (n - 1 - p) ∈ othY v W n z ↔ co W p ≠ co v p ∧ (p : Int) ∉ z := by
    have := Gf.mem_oth (xsL n z) (Gf.sumW v W) (by rw [hdl]; exact h.hn) p (by rw [hdl]; exact hp)
    rw [hdl] at this
    unfold othY
    rw [this, sum_ne hvw, mem_xsL h.hn hp h.ok.1]
  rw [e3]
  constructor
  · rintro (⟨h3, h4⟩ | h3)
    · exact .inr (h.all p hp h3 h4)
    · exact .inl h3
  · rintro (h3 | h3)
    · exact .inr h3
    · exact .inl (h.mem p h3).2
/-- without erased places: the evaluator's degree is less than the errata locator's, and it is nothing just if nothing was changed -/
theorem ert_nil (C : List UInt8) (n : Nat) : ertL C n [] = tr C := by
  unfold ertL
  refine (tr_congr fun i => ?_).trans (tr_tr C)
  rw [co_mulL']
  cases i with
  | zero =>
    show (0 : UInt8) ^^^ Gf.gm (co (tr C) 0) (co [1] 0) = _
    rw [show co [1] 0 = 1 from rfl, Gf.gm_one, UInt8.zero_xor]
  | succ i =>
    show Gf.sm _ (i + 1) ^^^ Gf.gm (co (tr C) (i + 1)) (co [1] (i + 1 - (i + 1))) = _
    rw [Nat.sub_self, show co [1] 0 = 1 from rfl, Gf.gm_one, Gf.sm_zero fun j hj => by
      rw [show co (Gf.locL (xsL n [])) (i + 1 - j) = 0 from co_ge (by show 1 ≤ _; omega), Gf.gm_zero], UInt8.zero_xor]
theorem for_nil (s : List UInt8) (n i : Nat) (h : i < 32) : co (forL s (Gf.locL (xsL n []))) i = co s i := by
  rw [co_for _ _ _ (by rw [for_len]; simpa using h), loc_tr, loc_len, co_mulL_comm, co_mulL']
  show Gf.sm (fun j => Gf.gm (co [1] j) (co s (0 + i - j))) (0 + i + 1) = _
  rw [Gf.sm_left, show co [1] 0 = 1 from rfl, Gf.one_gm, Nat.sub_zero, Nat.zero_add, Gf.sm_zero fun j _ => by rw [show co [1] (j + 1) = 0 from co_ge (by simp), Gf.zero_gm], UInt8.xor_zero]
theorem eva_co (s C : List UInt8) (n k : Nat) : co (evaL s C n []) k = if k < 32 then co (mulL s C) k else 0 := by
  unfold evaL
  rw [co_tr, ert_nil]
  have e : ∀ i, co (tr (mulL (tr s) (tr C))) i = co (mulL s C) i := fun i => by
    rw [co_tr]; exact mulL_congr (co_tr s) (co_tr C) i
  rw [co_take]
  by_cases h : k < 32
  · rw [if_pos h]
    split
    · exact e k
    · rename_i h2
      have hlow : lowN 32 (tr (mulL (tr s) (tr C))).length = (if ((tr (mulL (tr s) (tr C))).length : Int) < 32 then (tr (mulL (tr s) (tr C))).length else 32) := by
        unfold lowN; rw [if_neg (by decide)]; rfl
      rw [hlow] at h2
      rw [← e k]
      split at h2
      · exact (co_ge (by omega)).symm
      · omega
  · rw [if_neg h]
    split
    · rename_i h2
      have := lowN_le 32 (tr (mulL (tr s) (tr C))).length
      have hlow : lowN 32 (tr (mulL (tr s) (tr C))).length ≤ 32 := by
        unfold lowN; rw [if_neg (by decide)]; split <;> omega
      omega
    · rfl
theorem eva_deg {s C : List UInt8} {n L : Nat} (h : RF (forL s (Gf.locL (xsL n []))) C L) : (evaL s C n []).length ≤ L := by
  have hl : (forL s (Gf.locL (xsL n []))).length = 32 := for_len s n []
  have hz : ∀ k, L ≤ k → co (evaL s C n []) k = 0 := fun k hk => by
    rw [eva_co]
    split
    · rename_i h32
      have h1 := h.run.run k hk (by rw [hl]; exact h32)
      rw [← h1, co_mulL_comm, co_mulL']
      unfold Gf.dis
      rw [Gf.sm_more (n := L + 1) (m := k + 1) (by omega) (fun j hj => by rw [co_ge (by have := h.len; omega), Gf.zero_gm])]
      exact Gf.sm_congr fun j hj => by rw [for_nil s n _ (by omega)]
    · rfl
  have e : tr (evaL s C n []) = evaL s C n [] := by unfold evaL; exact tr_tr _
  rw [← e, tr_length]
  by_cases hc : tl (evaL s C n []) (evaL s C n []).length ≤ L
  · exact hc
  · exact absurd (hz _ (by omega)) (tl_top (evaL s C n []) (evaL s C n []).length (by omega))
theorem eva_nil {s C : List UInt8} {n L : Nat} (h : RF (forL s (Gf.locL (xsL n []))) C L) : (evaL s C n []).length = 0 ↔ L = 0 := by
  constructor
  · intro h0
    have hl : (forL s (Gf.locL (xsL n []))).length = 32 := for_len s n []
    have hz : ∀ k, k < 32 → co (mulL s C) k = 0 := fun k hk => by
      have := eva_co s C n k
      rw [if_pos hk, co_ge (by omega)] at this
      exact this.symm
    have hs : ∀ k, k < 32 → co s k = 0 := fun k => by
      induction k using Nat.strongRecOn with
      | ind k ih =>
        intro hk
        have h1 := hz k hk
        rw [co_mulL'] at h1
        have h2 : Gf.sm (fun i => Gf.gm (co s i) (co C (k - i))) (k + 1) = Gf.sm (fun i => Gf.gm (co s i) (co C (k - i))) k ^^^ Gf.gm (co s k) (co C (k - k)) := rfl
        rw [h2, Gf.sm_zero (fun i hi => by rw [ih i hi (by omega), Gf.zero_gm]), Nat.sub_self, h.run.one, Gf.gm_one, UInt8.zero_xor] at h1
        exact h1
    exact (zero_reg h fun i hi => by rw [for_nil s n i (by rw [hl] at hi; exact hi), hs i (by rw [hl] at hi; exact hi)]).1
  · intro h0
    have := eva_deg h
    omega
end Go.Proofs.YtgifbpjmblemhaaGreatDoor
