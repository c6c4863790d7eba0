/- The code's generator: the product of all roots is the document's. The document's sizes of words; its parity of what is too short or too long; the value that stands for a place. The code's sizes of words, and its values that stand for places. -/
import Derived.Test.YtgifbpjmblemhaaDoorGn
import Derived.Test.YtgifbpjmblemhaaDoorMu
import Derived.Test.YtgifbpjmblemhaaDoorFwm
import Derived.Test.YtgifbpjmblemhaaDoorDm
import Derived.Test.YtgifbpjmblemhaaDoorGf
import Derived.Test.YtgifbpjmblemhaaDoorRf
import Derived.Test.YtgifbpjmblemhaaDoorSl
import Derived.Test.YtgifbpjmblemhaaDoorKit
import Derived.Lib.Hide
import Derived.Test.YtgifbpjmblemhaaDoorTm
namespace Go.Proofs.YtgifbpjmblemhaaDoor
open Go.RowKit
set_option linter.unusedVariables false
set_option linter.unusedSimpArgs false
/-- alpha's powers, so many -/
def alL (n : Nat) : List UInt8 := tab Gf.al n
theorem co_two (p : List UInt8) (r : UInt8) (m : Nat) : co (mulL p [r, 1]) m = Gf.gm (co p m) r ^^^ (if m = 0 then 0 else co p (m - 1)) := by
  rw [co_mulL']
  cases m with
  | zero =>
    rw [if_pos rfl]
    show 0 ^^^ Gf.gm (co p 0) r = _
    rw [UInt8.zero_xor, UInt8.xor_zero]
  | succ m =>
    rw [if_neg (by omega), Nat.add_sub_cancel]
    show (Gf.sm _ m ^^^ Gf.gm (co p m) (co [r, 1] (m + 1 - m))) ^^^ Gf.gm (co p (m + 1)) (co [r, 1] (m + 1 - (m + 1))) = _
    rw [show m + 1 - m = 1 by omega, Nat.sub_self, show co [r, 1] 1 = 1 from rfl, show co [r, 1] 0 = r from rfl, Gf.gm_one]
    rw [show Gf.sm (fun i => Gf.gm (co p i) (co [r, 1] (m + 1 - i))) m = 0 from Gf.sm_zero fun i hi => by
      rw [show co [r, 1] (m + 1 - i) = 0 from co_ge (by show 2 ≤ _; omega), Gf.gm_zero]]
    rw [UInt8.zero_xor, UInt8.xor_comm]
theorem prod_gen (z : List UInt8) (n k : Nat) (hz : ∀ j, j < n → co z j = Gf.al j) (h : k ≤ n) (m : Nat) : co (prodL (fun r => [r, 1]) z k) m = co (genL k) m := by
  induction k generalizing m with
  | zero => rfl
  | succ k ih =>
    rw [prodL, genL, co_two, co_nx, hz k (by omega), ih (by omega), ih (by omega)]
theorem tr_gen (k : Nat) : tr (genL k) = genL k := tr_of_top fun _ => by
  rw [genL_length, Nat.add_sub_cancel, gen_top]
  decide
theorem tr_prod : tr (prodL (fun r => [r, 1]) (alL 32) 32) = genL 32 := by
  rw [← tr_gen 32]
  exact tr_congr fun m => prod_gen (alL 32) 32 32 (fun j hj => co_tab _ _ _ hj) (Nat.le_refl _) m
def CgAt (w : World) (g : Nat) (i : Value) (wr : World) : Prop :=
  ∃ k : Nat, k ≤ 32 ∧ i = .int .i64 k ∧ (∃ ys : List UInt8, ys.length = 32 ∧ (∀ j, j < k → co ys j = Gf.al j) ∧ wr.heap[g]? = some (.cells (bytesV ys).toArray 109 (0, 0))) ∧ Below w.heap.size w wr
theorem row_typed {X : World} {A : Nat} {z : List UInt8} {T : TypeId} (h : X.heap[A]? = some (.cells (bytesV z).toArray T (0, 0))) (hm : z.length ≤ maxLen) : RowIs X (some ⟨A, 0, none⟩) (bytesV z) z.length :=
  ⟨by simp, hm, fun h => (by cases h), fun h0 => ⟨A, 0, rfl, (Array.getElem?_eq_some_iff.1 h).1, fun i v hv => by
    unfold World.cell?
    rw [h]
    show (bytesV z).toArray[0 + i]? = _
    rw [Nat.zero_add, List.getElem?_toArray]
    exact hv⟩⟩
set_option maxRecDepth 100000 in
set_option maxHeartbeats 2000000 in
theorem cgen_of (Z : Array Value) (hZ : Z = (bytesV zsyn).toArray) (hzs : ∀ w, Sem.run Tryd.prog (zeroValue 109) w = .ok (.agg Z) w) (w : World) :
    Calls Tryd.prog 55 #[] w (Rows (genL 32) w) := by
  have hg1 : (w.alloc (.cells Z 109)).heap[w.heap.size]? = some (.cells (bytesV zsyn).toArray 109 (0, 0)) := by
    rw [hZ]; exact World.alloc_heap_new w _
  have hb1 : Below w.heap.size w (w.alloc (.cells Z 109)) := (Below.refl _ _).alloc (Nat.le_refl _) _
  have HG1 := Lib.hid hg1
  have HB1 := Lib.hid hb1
  have HGE : Hid (w.heap.size = w.heap.size) := Lib.hid rfl
  clear hg1 hb1 hZ
  go_enter Tryd.func55, Tryd.ntmps55
  go_wp2_with fail
  go_loopw [2, 3, 5] (fun _ i _ wr => CgAt w w.heap.size i wr) (fun _ i _ _ => 32 - (intOf i).toNat)
  case atStart => exact ⟨0, Nat.zero_le _, rfl, ⟨zsyn, by simp [zsyn], fun j h => absurd h (by omega), HG1.out⟩, HB1.out⟩
  case round =>
    rename World => W1
    obtain ⟨k, hk, rfl, ⟨ys, hys, hco, hg⟩, hb⟩ := hrel
    have HCO := Lib.hid hco
    have HG := Lib.hid hg
    have HB := Lib.hid hb
    clear hco hg hb
    by_cases hlt : k < 32
    · have hd1 : decide ((k : Int) < 32) = true := by simpa using (by omega : (k : Int) < 32)
      have hal := Gf.al_nat k
      obtain ⟨s, hs⟩ : ∃ s, Gf.al k = s := ⟨_, rfl⟩
      have hsl := UInt8.toNat_lt s
      have E : Hid (∀ w, Calls Tryd.prog 68 #[.int .i64 (k : Int)] w fun e w' => e = .returned (.int .u8 (s.toNat : Int)) ∧ w = w') := Lib.hid fun w => by
        have h := exp_any (k : Int) w
        rw [show ((k : Int) % 255).toNat = k by omega, ← hal, hs] at h
        exact h
      have hce : W1.cell? ⟨w.heap.size, k, none⟩ = some (.int .u8 ((co ys k).toNat : Int)) := by
        unfold World.cell?
        rw [HG.out]
        show (bytesV ys).toArray[k]? = _
        rw [List.getElem?_toArray]
        exact bytesV_get ys k (by omega)
      have hfr : W1.frozen? ⟨w.heap.size, k, none⟩ = false := by
        unfold World.frozen?
        rw [HG.out]
        rfl
      obtain ⟨w4, hw4⟩ : ∃ w4, W1.setCell ⟨w.heap.size, k, none⟩ (.int .u8 (s.toNat : Int)) = w4 := ⟨_, rfl⟩
      have hset := setCell_eq_setRow W1 w.heap.size k _ _ _ (.int .u8 (s.toNat : Int)) HG.out
      rw [hw4, cells_set] at hset
      have hg4 : w4.heap[w.heap.size]? = some (.cells (bytesV (ys.set k s)).toArray 109 (0, 0)) := by rw [hset]; exact setRow_heap _ _ _ _ _ _ HG.out
      have hb4 : Below w.heap.size w w4 := by rw [hset]; exact HB.out.trans (below_setRow (Nat.le_refl _))
      have HG4 := Lib.hid hg4
      have HB4 := Lib.hid hb4
      have HW4 := Lib.hid hw4
      have HS := Lib.hid hs
      clear hs hw4 hset hg4 hb4 hal
      have hk0 : (0 : Int) ≤ (k : Int) := by omega
      have hk1 : (k : Int) < 32 := by omega
      go_wp2_with fail
      refine (E.out _).mono ?_; rintro e w' ⟨rfl, rfl⟩
      go_wp2_with fail
      rw [HW4.out]
      go_roundw
      case rel =>
        refine ⟨k + 1, by omega, by go_num, ⟨ys.set k s, by simp [hys], fun j hj => ?_, HG4.out⟩, HB4.out⟩
        rw [co_set]
        by_cases e : k = j
        · subst e
          rw [if_pos ⟨rfl, by omega⟩, HS.out]
        · rw [if_neg (fun h => e h.1)]
          exact HCO.out j (by omega)
      case measure => simp [intOf]; omega
    · obtain rfl : k = 32 := by omega
      have hye : ys = alL 32 := list_ext (by simp [hys, alL]) fun j hj => by
        rw [HCO.out j (by omega)]
        exact (co_tab Gf.al 32 j (by omega)).symm
      subst hye
      clear HCO
      have hro : RowIs W1 (some ⟨w.heap.size, 0, none⟩) (bytesV (alL 32)) (alL 32).length := row_typed HG.out (by rw [hys]; unfold maxLen; omega)
      have hcl := roots_any (alL 32) _ _ W1 (by rw [hys]; omega) hro
      rw [hys, tr_prod] at hcl
      have HCL := Lib.hid hcl
      clear hro hcl
      go_wp2_with fail
      refine HCL.out.mono ?_; rintro e w1 ⟨g, cap, rfl, hg, hb, hr⟩
      have HB5 := Lib.hid (HB.out.trans (hb.mono HB.out.size))
      have HR := Lib.hid hr
      clear hb hr HCL
      go_wp2_with fail
      go_ret
      exact ⟨_, rfl, ⟨_, _, rfl, HR.out⟩, HB5.out⟩
theorem cgen_any (w : World) : Calls Tryd.prog 55 #[] w (Rows (genL 32) w) := cgen_of _ rfl zero_syn w
end Go.Proofs.YtgifbpjmblemhaaDoor
namespace Go.Proofs.YtgifbpjmblemhaaDoor
open Go.RowKit
set_option linter.unusedVariables false
set_option linter.unusedSimpArgs false
theorem rpar_size (m c : Nat) (o : Option Addr) (w : World) (h : m < 1 ∨ 223 < m) (hm : m ≤ 9223372036854775807) :
    Calls Tryd.prog 26 #[.slice o m c] w fun e w' => e = .returned (.tuple #[.slice none 0 0, .int .i64 8]) ∧ w' = w := by
  by_cases h1 : m < 1
  · have hd1 : decide ((m : Int) < 1) = true := decide_eq_true (by omega)
    clear h
    go_enter Tryd.func26, Tryd.ntmps26
    go_wp2
    go_ret2
    exact ⟨rfl, rfl⟩
  · have hd1 : decide ((m : Int) < 1) = false := decide_eq_false (by omega)
    have hd2 : decide ((223 : Int) < (m : Int)) = true := decide_eq_true (by omega)
    clear h
    go_enter Tryd.func26, Tryd.ntmps26
    go_wp2
    go_ret2
    exact ⟨rfl, rfl⟩
def PwAt (a n : Nat) (m out : Value) : Prop := ∃ k : Nat, k ≤ n ∧ m = .int .i64 (n - k : Nat) ∧ out = .int .u8 (Gf.pw a k : Nat)
end Go.Proofs.YtgifbpjmblemhaaDoor
namespace Go.Proofs.YtgifbpjmblemhaaDoor
open Go.RowKit
set_option linter.unusedVariables false
set_option linter.unusedSimpArgs false
theorem fits_any (n : Int) (w : World) : Calls Tryd.prog 70 #[.int .i64 n] w fun e w' => e = .returned (.bool (decide (33 ≤ n ∧ n ≤ 255))) ∧ w' = w := by
  by_cases h1 : 32 < n
  · have hd1 : decide (32 < n) = true := decide_eq_true h1
    by_cases h2 : n ≤ 255
    · have hd2 : decide (n ≤ 255) = true := decide_eq_true h2
      have H : Hid (decide (33 ≤ n ∧ n ≤ 255) = true) := Lib.hid (decide_eq_true ⟨h1, h2⟩)
      clear h1 h2
      go_enter Tryd.func70, Tryd.ntmps70
      go_wp2
      go_ret
      exact ⟨by rw [H.out]; rfl, rfl⟩
    · have hd2 : decide (n ≤ 255) = false := decide_eq_false h2
      have H : Hid (decide (33 ≤ n ∧ n ≤ 255) = false) := Lib.hid (decide_eq_false fun h => h2 h.2)
      clear h1 h2
      go_enter Tryd.func70, Tryd.ntmps70
      go_wp2
      go_ret
      exact ⟨by rw [H.out]; rfl, rfl⟩
  · have hd1 : decide (32 < n) = false := decide_eq_false h1
    have H : Hid (decide (33 ≤ n ∧ n ≤ 255) = false) := Lib.hid (decide_eq_false fun h => h1 h.1)
    clear h1
    go_enter Tryd.func70, Tryd.ntmps70
    go_wp2
    go_ret
    exact ⟨by rw [H.out]; rfl, rfl⟩
/-- the value that stands for a place, or nought -/
def pwv (n p : Int) : UInt8 := if 33 ≤ n ∧ n ≤ 255 ∧ 0 ≤ p ∧ p < n then Gf.al (n - 1 - p).toNat else 0
theorem fits_true (n : Int) (h : 33 ≤ n ∧ n ≤ 255) (w : World) : Calls Tryd.prog 70 #[.int .i64 n] w fun e w' => e = .returned (.bool true) ∧ w' = w := by
  have := fits_any n w
  rwa [decide_eq_true h] at this
theorem fits_false (n : Int) (h : ¬ (33 ≤ n ∧ n ≤ 255)) (w : World) : Calls Tryd.prog 70 #[.int .i64 n] w fun e w' => e = .returned (.bool false) ∧ w' = w := by
  have := fits_any n w
  rwa [decide_eq_false h] at this
set_option maxRecDepth 100000 in
theorem cpower_any (n p : Int) (w : World) : Calls Tryd.prog 93 #[.int .i64 n, .int .i64 p] w fun e w' => e = .returned (.int .u8 ((pwv n p).toNat : Int)) ∧ w' = w := by
  by_cases h1 : 33 ≤ n ∧ n ≤ 255
  · have C : Hid (∀ w, Calls Tryd.prog 70 #[.int .i64 n] w fun e w' => e = .returned (.bool true) ∧ w' = w) := Lib.hid (fits_true n h1)
    by_cases h2 : p < 0
    · have hd2 : decide (p < 0) = true := decide_eq_true h2
      have H : Hid (pwv n p = 0) := Lib.hid (if_neg (by omega))
      clear h1 h2
      go_enter Tryd.func93, Tryd.ntmps93
      go_wp2_with fail
      refine (C.out _).mono ?_; rintro e w' ⟨rfl, rfl⟩
      go_wp2_with fail
      go_ret
      exact ⟨by rw [H.out]; rfl, rfl⟩
    · have hd2 : decide (p < 0) = false := decide_eq_false h2
      by_cases h3 : n ≤ p
      · have hd3 : decide (n ≤ p) = true := decide_eq_true h3
        have H : Hid (pwv n p = 0) := Lib.hid (if_neg (by omega))
        clear h1 h2 h3
        go_enter Tryd.func93, Tryd.ntmps93
        go_wp2_with fail
        refine (C.out _).mono ?_; rintro e w' ⟨rfl, rfl⟩
        go_wp2_with fail
        go_ret
        exact ⟨by rw [H.out]; rfl, rfl⟩
      · have hd3 : decide (n ≤ p) = false := decide_eq_false h3
        have H : Hid (pwv n p = Gf.al (n - 1 - p).toNat) := Lib.hid (if_pos (by omega))
        have E : Hid (∀ w, Calls Tryd.prog 68 #[.int .i64 (n - 1 - p)] w fun e w' => e = .returned (.int .u8 ((pwv n p).toNat : Int)) ∧ w = w') := Lib.hid fun w => by
          have h := exp_any (n - 1 - p) w
          rw [show ((n - 1 - p) % 255).toNat = (n - 1 - p).toNat by omega, ← Gf.al_nat, ← H.out] at h
          exact h
        have hp0 : 0 ≤ p := by omega
        have hp1 : p < n := by omega
        have hn1 : 33 ≤ n := h1.1
        have hn2 : n ≤ 255 := h1.2
        clear h1 h2 h3
        go_enter Tryd.func93, Tryd.ntmps93
        go_wp2_with fail
        refine (C.out _).mono ?_; rintro e w' ⟨rfl, rfl⟩
        go_wp2_with fail
        refine (E.out _).mono ?_; rintro e w' ⟨rfl, rfl⟩
        go_wp2_with fail
        go_ret
        exact ⟨rfl, rfl⟩
  · have C : Hid (∀ w, Calls Tryd.prog 70 #[.int .i64 n] w fun e w' => e = .returned (.bool false) ∧ w' = w) := Lib.hid (fits_false n h1)
    have H : Hid (pwv n p = 0) := Lib.hid (if_neg (by omega))
    clear h1
    go_enter Tryd.func93, Tryd.ntmps93
    go_wp2_with fail
    refine (C.out _).mono ?_; rintro e w' ⟨rfl, rfl⟩
    go_wp2_with fail
    go_ret
    exact ⟨by rw [H.out]; rfl, rfl⟩
end Go.Proofs.YtgifbpjmblemhaaDoor
