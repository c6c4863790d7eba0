/- The code's Erasures: which place is beyond, which is there twice. -/
import Derived.Test.YtoefhhkemljjdaaDoorEs
import Derived.Test.YtoefhhkemljjdaaDoorErr
namespace Go.Proofs.YtoefhhkemljjdaaDoor
open Go.RowKit
set_option linter.unusedVariables false
set_option linter.unusedSimpArgs false
theorem beyond_any (p n : Int) (Q : Nat) (w : World) (hq : Boxed w Q 3 (.int .i64 n)) :
    Calls Tryd.prog 33 #[.int .i64 p, .pointer (some ⟨Q, 0, none⟩)] w fun e w' => e = .returned (.bool (decide (p < 0 ∨ n ≤ p))) ∧ w' = w := by
  have hc := hq.cell
  clear hq
  by_cases h0 : p < 0
  · have hd0 : decide (p < 0) = true := decide_eq_true h0
    have HD : Hid (decide (p < 0 ∨ n ≤ p) = true) := Lib.hid (decide_eq_true (.inl h0))
    clear h0
    go_enter Tryd.func33, Tryd.ntmps33
    go_wp2_with fail
    go_ret
    exact ⟨by rw [HD.out]; rfl, rfl⟩
  · have hd0 : decide (p < 0) = false := decide_eq_false h0
    by_cases h1 : n ≤ p
    · have hd1 : decide (n ≤ p) = true := decide_eq_true h1
      have HD : Hid (decide (p < 0 ∨ n ≤ p) = true) := Lib.hid (decide_eq_true (.inr h1))
      clear h0 h1
      go_enter Tryd.func33, Tryd.ntmps33
      go_wp2_with fail
      go_ret
      exact ⟨by rw [HD.out]; rfl, rfl⟩
    · have hd1 : decide (n ≤ p) = false := decide_eq_false h1
      have HD : Hid (decide (p < 0 ∨ n ≤ p) = false) := Lib.hid (decide_eq_false fun h => h.elim h0 h1)
      clear h0 h1
      go_enter Tryd.func33, Tryd.ntmps33
      go_wp2_with fail
      go_ret
      exact ⟨by rw [HD.out]; rfl, rfl⟩
def IxAt (n : Int) (z : List Int) (w : World) (i : Value) (wr : World) : Prop := ∃ k : Nat, k ≤ z.length ∧ i = .int .i64 k ∧ (∀ j, j < k → 0 ≤ ci z j ∧ ci z j < n) ∧ wr = w
def IxTo (n : Int) (z : List Int) (w : World) (e : Ending) (w' : World) : Prop :=
  w' = w ∧ (((∃ k, k < z.length ∧ (ci z k < 0 ∨ n ≤ ci z k)) ∧ ∃ k : Nat, e = .returned (.int .i64 (k : Int))) ∨ ((∀ k, k < z.length → 0 ≤ ci z k ∧ ci z k < n) ∧ e = .returned (.int .i64 (-1))))
theorem ints_cell {z : List Int} {o : Option Addr} {c : Nat} {w : World} (hS : RowIs w o (intsV z) c) (k : Nat) (hk : k < z.length) : ∃ b off, o = some ⟨b, off, none⟩ ∧ w.cell? ⟨b, off + k, none⟩ = some (.int .i64 (ci z k)) := by
  obtain ⟨b, off, rfl, _, hc⟩ := hS.cells (by simp; omega)
  exact ⟨b, off, rfl, hc k _ (by simp [intsV, ci, List.getD_eq_getElem?_getD, hk])⟩
set_option maxRecDepth 100000 in
set_option maxHeartbeats 2000000 in
theorem cindex_any (z : List Int) (n : Int) (Q c : Nat) (o : Option Addr) (w : World) (hS : RowIs w o (intsV z) c) (hq : Boxed w Q 3 (.int .i64 n)) :
    Calls Tryd.prog 55 #[.slice o z.length c, .func (.func 33) #[] #[.pointer (some ⟨Q, 0, none⟩)]] w (IxTo n z w) := by
  have h1 := hS.le
  have h2 := hS.cap
  simp only [intsV_length] at h1
  unfold maxLen at h2
  have HS := Lib.hid hS
  have HQ := Lib.hid hq
  clear hS hq
  go_enter Tryd.func55, Tryd.ntmps55
  go_wp2_with fail
  go_loopw [5, 8] (fun _ i wr => IxAt n z w i wr) (fun _ i _ => z.length - (intOf i).toNat)
  case atStart => exact ⟨0, Nat.zero_le _, rfl, fun j h => absurd h (by omega), rfl⟩
  case round =>
    obtain ⟨k, hk, rfl, hall, rfl⟩ := hrel
    have HALL := Lib.hid hall
    clear hall
    by_cases hlt : k < z.length
    · obtain ⟨b, off, rfl, hcell⟩ := ints_cell HS.out k hlt
      obtain ⟨p, hp⟩ : ∃ p, ci z k = p := ⟨_, rfl⟩
      rw [hp] at hcell
      have HP := Lib.hid hp
      have hk0 : (0 : Int) ≤ (k : Int) := by omega
      have hk1 : (k : Int) < (z.length : Int) := by omega
      have HBY := Lib.hid (beyond_any p n Q wr HQ.out)
      clear hp
      by_cases hb : p < 0 ∨ n ≤ p
      · rw [decide_eq_true hb] at HBY
        have HBB := Lib.hid hb
        clear hb
        go_wp2_with fail
        refine HBY.out.mono ?_; rintro e w2 ⟨rfl, rfl⟩
        go_wp2_with fail
        go_ret
        exact ⟨rfl, .inl ⟨⟨k, hlt, by rw [HP.out]; exact HBB.out⟩, k, rfl⟩⟩
      · rw [decide_eq_false hb] at HBY
        have HBB := Lib.hid hb
        clear hb
        go_wp2_with fail
        refine HBY.out.mono ?_; rintro e w2 ⟨rfl, rfl⟩
        go_wp2_with fail
        go_roundw
        case rel =>
          refine ⟨k + 1, by omega, by go_num, fun j hj => ?_, rfl⟩
          by_cases e : j = k
          · rw [e, HP.out]; have := HBB.out; omega
          · exact HALL.out j (by omega)
        case measure => simp [intOf]; omega
    · obtain rfl : k = z.length := by omega
      go_wp2_with fail
      go_ret
      exact ⟨rfl, .inr ⟨HALL.out, rfl⟩⟩
def CtTo (n : Int) (z : List Int) (w : World) (e : Ending) (w' : World) : Prop :=
  w' = w ∧ (((∃ k, k < z.length ∧ (ci z k < 0 ∨ n ≤ ci z k)) ∧ e = .returned (.bool true)) ∨ ((∀ k, k < z.length → 0 ≤ ci z k ∧ ci z k < n) ∧ e = .returned (.bool false)))
theorem ccontains_any (z : List Int) (n : Int) (Q c : Nat) (o : Option Addr) (w : World) (hS : RowIs w o (intsV z) c) (hq : Boxed w Q 3 (.int .i64 n)) :
    Calls Tryd.prog 34 #[.slice o z.length c, .func (.func 33) #[] #[.pointer (some ⟨Q, 0, none⟩)]] w (CtTo n z w) := by
  have HI := Lib.hid (cindex_any z n Q c o w hS hq)
  clear hS hq
  go_enter Tryd.func34, Tryd.ntmps34
  go_wp2_with fail
  refine HI.out.mono ?_; rintro e w2 ⟨rfl, ⟨h, k, rfl⟩ | ⟨h, rfl⟩⟩
  · have hk : (0 : Int) ≤ (k : Int) := by omega
    have H := Lib.hid h
    clear h
    go_wp2_with fail
    go_ret
    exact ⟨rfl, .inl ⟨H.out, rfl⟩⟩
  · have H := Lib.hid h
    clear h
    go_wp2_with fail
    go_ret
    exact ⟨rfl, .inr ⟨H.out, rfl⟩⟩
def zb : Array Value := Array.replicate 255 (.bool false)
theorem zero_bools (w : World) : Sem.run Tryd.prog (zeroValue 92) w = .ok (.agg zb) w := by kernel_rfl
/-- which places have been seen -/
def Seen (z : List Int) (k : Nat) (D : Array Value) : Prop := D.size = 255 ∧ ∀ p, p < 255 → D[p]? = some (.bool (decide (∃ j, j < k ∧ ci z j = (p : Int))))
def DbAt (z : List Int) (w : World) (i : Value) (wr : World) : Prop := ∃ (k : Nat) (D : Array Value), k ≤ z.length ∧ i = .int .i64 k ∧ Seen z k D ∧ (∀ a b, b < a → a < k → ci z a ≠ ci z b) ∧ wr = w.alloc (.cells D 92)
def DbTo (z : List Int) (w : World) (e : Ending) (w' : World) : Prop :=
  Below w.heap.size w w' ∧ (((∃ i j, j < i ∧ i < z.length ∧ ci z i = ci z j) ∧ e = .returned (.bool true)) ∨ ((∀ i j, j < i → i < z.length → ci z i ≠ ci z j) ∧ e = .returned (.bool false)))
theorem Seen.step {z : List Int} {k p : Nat} {D : Array Value} (h : Seen z k D) (hp : ci z k = (p : Int)) (hp2 : p < 255) : Seen z (k + 1) (D.setIfInBounds p (.bool true)) := by
  refine ⟨by simp [h.1], fun q hq => ?_⟩
  simp only [Array.getElem?_setIfInBounds]
  by_cases e : p = q
  · subst e
    rw [if_pos rfl, if_pos (by rw [h.1]; exact hq)]
    congr 2
    exact (decide_eq_true ⟨k, by omega, hp⟩).symm
  · rw [if_neg e, h.2 q hq]
    congr 2
    refine decide_eq_decide.2 ⟨fun ⟨j, h1, h2⟩ => ⟨j, by omega, h2⟩, fun ⟨j, h1, h2⟩ => ⟨j, ?_, h2⟩⟩
    by_cases ej : j = k
    · rw [ej, hp] at h2
      omega
    · omega
set_option maxRecDepth 100000 in
set_option maxHeartbeats 2000000 in
theorem doubled_of (Z : Array Value) (hz : ∀ w, Sem.run Tryd.prog (zeroValue 92) w = .ok (.agg Z) w) (z : List Int) (hZ : Seen z 0 Z) (n c : Nat) (o : Option Addr) (w : World) (hS : RowIs w o (intsV z) c) (hn : n ≤ 255) (hin : ∀ k, k < z.length → 0 ≤ ci z k ∧ ci z k < n) :
    Calls Tryd.prog 35 #[.slice o z.length c] w (DbTo z w) := by
  have h1 := hS.le
  have h2 := hS.cap
  simp only [intsV_length] at h1
  unfold maxLen at h2
  have HS := Lib.hid hS
  have HZ := Lib.hid hZ
  have HIN := Lib.hid hin
  clear hS hZ hin
  go_enter Tryd.func35, Tryd.ntmps35
  go_wp2_with fail
  clear hz
  go_loopw [5, 8] (fun _ i wr => DbAt z w i wr) (fun _ i _ => z.length - (intOf i).toNat)
  case atStart => exact ⟨0, Z, Nat.zero_le _, rfl, HZ.out, fun a b _ h => absurd h (by omega), rfl⟩
  case round =>
    obtain ⟨k, D, hk, rfl, hD, hdis, rfl⟩ := hrel
    have HDIS := Lib.hid hdis
    have HD := Lib.hid hD
    by_cases hlt : k < z.length
    · obtain ⟨b, off, rfl, hcell⟩ := ints_cell (HS.out.later ((Below.refl _ _).alloc (Nat.le_refl _) (.cells D 92))) k hlt
      have hpn := HIN.out k hlt
      obtain ⟨p, hp⟩ := Int.eq_ofNat_of_zero_le hpn.1
      rw [hp] at hcell hpn
      have hp255 : p < 255 := by omega
      have hDp := hD.2 p hp255
      have HP := Lib.hid hp
      have hk0 : (0 : Int) ≤ (k : Int) := by omega
      have hk1 : (k : Int) < (z.length : Int) := by omega
      have hp0 : (0 : Int) ≤ (p : Int) := by omega
      have hp1 : (p : Int) < 255 := by omega
      have HPN : Hid (p < 255) := Lib.hid hp255
      by_cases hs : ∃ j, j < k ∧ ci z j = (p : Int)
      · rw [decide_eq_true hs] at hDp
        have HSS := Lib.hid hs
        clear hs hp hdis hD hpn
        go_wp2_with fail
        go_ret
        obtain ⟨j, hj, hjp⟩ := HSS.out
        exact ⟨(Below.refl _ _).alloc (Nat.le_refl _) _, .inl ⟨⟨k, j, hj, hlt, by rw [hjp, HP.out]⟩, rfl⟩⟩
      · rw [decide_eq_false hs] at hDp
        have HSS := Lib.hid hs
        clear hs hp hdis hD hpn
        go_wp2_with fail
        go_roundw
        case rel =>
          refine ⟨k + 1, D.setIfInBounds p (.bool true), by omega, by go_num, HD.out.step HP.out HPN.out, fun a b hb ha => ?_, rfl⟩
          by_cases e : a = k
          · rw [e] at hb ⊢
            intro h
            exact HSS.out ⟨b, hb, by rw [← h, HP.out]⟩
          · exact HDIS.out a b hb (by omega)
        case measure => simp [intOf]; omega
    · obtain rfl : k = z.length := by omega
      clear hD
      go_wp2_with fail
      go_ret
      exact ⟨(Below.refl _ _).alloc (Nat.le_refl _) _, .inr ⟨fun i j h1 h2 => HDIS.out i j h1 h2, rfl⟩⟩
theorem doubled_any (z : List Int) (n c : Nat) (o : Option Addr) (w : World) (hS : RowIs w o (intsV z) c) (hn : n ≤ 255) (hin : ∀ k, k < z.length → 0 ≤ ci z k ∧ ci z k < n) :
    Calls Tryd.prog 35 #[.slice o z.length c] w (DbTo z w) := by
  refine doubled_of zb zero_bools z ⟨by simp [zb], fun p hp => ?_⟩ n c o w hS hn hin
  rw [decide_eq_false (fun ⟨j, hj, _⟩ => absurd hj (by omega))]
  simp [zb, hp]
end Go.Proofs.YtoefhhkemljjdaaDoor
