/- The document's erasure locator. -/
import Derived.Test.YtgchfijeiggimaaGreatDoorDf
import Derived.Test.YtgchfijeiggimaaGreatDoorRr
import Derived.Test.YtgchfijeiggimaaGreatDoorCg
namespace Go.Proofs.YtgchfijeiggimaaGreatDoor
open Go.RowKit
set_option linter.unusedVariables false
set_option linter.unusedSimpArgs false
def ci (z : List Int) (k : Nat) : Int := z.getD k 0
/-- the values that stand for places -/
def xsL (n : Nat) (z : List Int) : List UInt8 := z.map fun p => Gf.al (n - 1 - p.toNat)
theorem co_xsL (n : Nat) (z : List Int) (k : Nat) (h : k < z.length) : co (xsL n z) k = Gf.al (n - 1 - (ci z k).toNat) := by
  simp [co, xsL, ci, List.getD_eq_getElem?_getD, h]
theorem inv_step (z : List UInt8) (k : Nat) : tr (mulL (tr (prodL (fun r => [1, r]) z k)) [1, co z k]) = tr (prodL (fun r => [1, r]) z (k + 1)) := tr_congr (mulL_congr (co_tr _) (fun _ => rfl))
def ErTo (n : Nat) (z : List Int) (w : World) (e : Ending) (w' : World) : Prop :=
  Below w.heap.size w w' ∧ (((∃ k, k < z.length ∧ (ci z k < 0 ∨ (n : Int) ≤ ci z k)) ∧ e = .returned (.tuple #[.slice none 0 0, .int .i64 1])) ∨
    ((∀ k, k < z.length → 0 ≤ ci z k ∧ ci z k < n) ∧ (((∃ i j, j < i ∧ i < z.length ∧ ci z i = ci z j) ∧ e = .returned (.tuple #[.slice none 0 0, .int .i64 10])) ∨
      ((∀ i j, j < i → i < z.length → ci z i ≠ ci z j) ∧ ((32 < z.length ∧ e = .returned (.tuple #[.slice none 0 0, .int .i64 16])) ∨
        (z.length ≤ 32 ∧ ∃ x, e = .returned (.tuple #[x, .int .i64 0]) ∧ RowV (tr (prodL (fun r => [1, r]) (xsL n z) z.length)) x w'))))))
def E1At (n : Nat) (z : List Int) (w : World) (i : Value) (wr : World) : Prop := ∃ k : Nat, k ≤ z.length ∧ i = .int .i64 k ∧ (∀ j, j < k → 0 ≤ ci z j ∧ ci z j < n) ∧ wr = w
def E2At (z : List Int) (w : World) (i : Value) (wr : World) : Prop := ∃ k : Nat, k ≤ z.length ∧ i = .int .i64 k ∧ (∀ a b, b < a → a < k → ci z a ≠ ci z b) ∧ wr = w
def E3At (z : List Int) (k : Nat) (w : World) (i : Value) (wr : World) : Prop := ∃ j : Nat, j ≤ k ∧ i = .int .i64 j ∧ (∀ b, b < j → ci z k ≠ ci z b) ∧ wr = w
def E4At (n : Nat) (z : List Int) (w : World) (v i : Value) (wr : World) : Prop := ∃ k : Nat, k ≤ z.length ∧ i = .int .i64 k ∧ RowV (tr (prodL (fun r => [1, r]) (xsL n z) k)) v wr ∧ Below w.heap.size w wr
theorem res_size (m c : Nat) (o : Option Addr) (n : Int) (w : World) (h : ¬ (33 ≤ n ∧ n ≤ 255)) (hm : m ≤ 9223372036854775807) :
    Calls Tryz.prog 19 #[.int .i64 n, .slice o m c] w fun e w' => e = .returned (.tuple #[.slice none 0 0, .int .i64 8]) ∧ w' = w := by
  have S1 : Hid (∀ w, Calls Tryz.prog 42 #[.int .i64 n] w fun e w' => e = .returned (.bool false) ∧ w' = w) := Lib.hid fun w => by
    have := sized_any n w
    rwa [decide_eq_false h] at this
  clear h
  go_enter Tryz.func19, Tryz.ntmps19
  go_wp2_with fail
  refine (S1.out _).mono ?_; rintro e w' ⟨rfl, rfl⟩
  go_wp2_with fail
  go_ret2
  exact ⟨rfl, rfl⟩
set_option maxRecDepth 100000 in
set_option maxHeartbeats 4000000 in
theorem res_any (z : List Int) (n c : Nat) (o : Option Addr) (w : World) (hS : RowIs w o (intsV z) c) (hn1 : 33 ≤ n) (hn2 : n ≤ 255) (hl : z.length ≤ 1000) (hz : ∀ k, k < z.length → -9223372036854775808 ≤ ci z k ∧ ci z k ≤ 9223372036854775807) :
    Calls Tryz.prog 19 #[.int .i64 n, .slice o z.length c] w (ErTo n z w) := by
  have S1 : Hid (∀ w, Calls Tryz.prog 42 #[.int .i64 n] w fun e w' => e = .returned (.bool true) ∧ w' = w) := Lib.hid fun w => by
    have := sized_any (n : Int) w
    rwa [decide_eq_true (by omega : 33 ≤ (n : Int) ∧ (n : Int) ≤ 255)] at this
  have h1 := hS.le
  have h2 := hS.cap
  simp only [intsV_length] at h1
  unfold maxLen at h2
  have HS := Lib.hid hS
  have HZ := Lib.hid hz
  have hci : ∀ (v : World), Below w.heap.size w v → ∀ k, k < z.length → ∃ b off, o = some ⟨b, off, none⟩ ∧ v.cell? ⟨b, off + k, none⟩ = some (.int .i64 (ci z k)) := fun v hb k hk => by
    obtain ⟨b, off, rfl, _, hc⟩ := (hS.later hb).cells (by simp; omega)
    exact ⟨b, off, rfl, hc k _ (by simp [intsV, ci, List.getD_eq_getElem?_getD, hk])⟩
  have HC := Lib.hid hci
  clear hS hz hci
  go_enter Tryz.func19, Tryz.ntmps19
  go_wp2_with fail
  refine (S1.out _).mono ?_; rintro e w1 ⟨rfl, rfl⟩
  go_wp2_with fail
  go_loopw [7, 20] (fun _ i wr => E1At n z w1 i wr) (fun _ i _ => z.length - (intOf i).toNat)
  case atStart => exact ⟨0, Nat.zero_le _, rfl, fun j h => absurd h (by omega), rfl⟩
  case round =>
    obtain ⟨k, hk, rfl, hall, rfl⟩ := hrel
    have HALL := Lib.hid hall
    clear hall
    by_cases hlt : k < z.length
    · obtain ⟨b, off, rfl, hcell⟩ := HC.out wr (Below.refl _ _) k hlt
      obtain ⟨p, hp⟩ : ∃ p, ci z k = p := ⟨_, rfl⟩
      rw [hp] at hcell
      have hpz := HZ.out k hlt
      rw [hp] at hpz
      have HP := Lib.hid hp
      have hk0 : (0 : Int) ≤ (k : Int) := by omega
      have hk1 : (k : Int) < (z.length : Int) := by omega
      clear hp
      by_cases h0 : p < 0
      · have hd0 : decide (p < 0) = true := decide_eq_true h0
        go_wp2_with fail
        go_ret2
        exact ⟨Below.refl _ _, .inl ⟨⟨k, hlt, .inl (by rw [HP.out]; exact h0)⟩, rfl⟩⟩
      · have hd0 : decide (p < 0) = false := decide_eq_false h0
        by_cases h3 : (n : Int) ≤ p
        · have hd3 : decide ((n : Int) ≤ p) = true := decide_eq_true h3
          go_wp2_with fail
          go_ret2
          exact ⟨Below.refl _ _, .inl ⟨⟨k, hlt, .inr (by rw [HP.out]; exact h3)⟩, rfl⟩⟩
        · have hd3 : decide ((n : Int) ≤ p) = false := decide_eq_false h3
          go_wp2_with fail
          go_roundw
          case rel =>
            refine ⟨k + 1, by omega, by go_num, fun j hj => ?_, rfl⟩
            by_cases e : j = k
            · rw [e, HP.out]; omega
            · exact HALL.out j (by omega)
          case measure => simp [intOf]; omega
    · obtain rfl : k = z.length := by omega
      go_wp2_with fail
      go_loopw [8, 9, 34] (fun _ _ i w2 => E2At z wr i w2) (fun _ _ i _ => z.length - (intOf i).toNat)
      case atStart => exact ⟨0, Nat.zero_le _, rfl, fun a b _ h => absurd h (by omega), rfl⟩
      case round =>
        rename World => W2
        obtain ⟨k, hk, rfl, hdis, rfl⟩ := hrel
        have HDIS := Lib.hid hdis
        clear hdis
        by_cases hlt2 : k < z.length
        · obtain ⟨b, off, rfl, hcell⟩ := HC.out W2 (Below.refl _ _) k hlt2
          have hk0 : (0 : Int) ≤ (k : Int) := by omega
          have hk1 : (k : Int) < (z.length : Int) := by omega
          have hkc : (k : Int) ≤ (c : Int) := by omega
          have hpz := HZ.out k hlt2
          go_wp2_with fail
          go_loopw [11, 43] (fun _ i w3 => E3At z k W2 i w3) (fun _ i _ => k - (intOf i).toNat)
          case atStart => exact ⟨0, Nat.zero_le _, rfl, fun b h => absurd h (by omega), rfl⟩
          case round =>
            rename World => W3
            obtain ⟨j, hj, rfl, hne, rfl⟩ := hrel
            have HNE := Lib.hid hne
            clear hne
            by_cases hjk : j < k
            · obtain ⟨b2, off2, e2, hcell2⟩ := HC.out W3 (Below.refl _ _) j (by omega)
              obtain ⟨rfl, rfl⟩ : b = b2 ∧ off = off2 := by cases e2; exact ⟨rfl, rfl⟩
              have hj0 : (0 : Int) ≤ (j : Int) := by omega
              have hj1 : (j : Int) < (k : Int) := by omega
              have hqz := HZ.out j (by omega)
              obtain ⟨q, hq⟩ : ∃ q, ci z j = q := ⟨_, rfl⟩
              obtain ⟨p, hp⟩ : ∃ p, ci z k = p := ⟨_, rfl⟩
              rw [hq] at hcell2 hqz
              rw [hp]
              have HQ := Lib.hid hq
              have HP := Lib.hid hp
              clear hp hq hcell e2 hpz
              by_cases hpq : p = q
              · have hpb : (p == q) = true := by simpa using hpq
                have hpd : decide (p = q) = true := decide_eq_true hpq
                have HPQ : Hid (ci z k = ci z j) := Lib.hid (by rw [HP.out, HQ.out, hpq])
                clear hpq
                go_wp2_with fail
                go_ret2
                exact ⟨Below.refl _ _, .inr ⟨HALL.out, .inl ⟨⟨k, j, hjk, hlt2, HPQ.out⟩, rfl⟩⟩⟩
              · have hpb : (p == q) = false := by simpa using hpq
                have hpd : decide (p = q) = false := decide_eq_false hpq
                have HPQ : Hid (ci z k ≠ ci z j) := Lib.hid (by rw [HP.out, HQ.out]; exact hpq)
                clear hpq
                go_wp2_with fail
                go_roundw
                case rel =>
                  refine ⟨j + 1, by omega, by go_num, fun b hb => ?_, rfl⟩
                  by_cases e : b = j
                  · rw [e]; exact HPQ.out
                  · exact HNE.out b (by omega)
                case measure => simp [intOf]; omega
            · obtain rfl : j = k := by omega
              go_wp2_with fail
              go_roundw
              case rel =>
                refine ⟨j + 1, by omega, by go_num, fun a b hb ha => ?_, rfl⟩
                by_cases e : a = j
                · rw [e] at hb ⊢; exact HNE.out b hb
                · exact HDIS.out a b hb (by omega)
              case measure => simp [intOf]; omega
        · obtain rfl : k = z.length := by omega
          have HDS : Hid (∀ i j, j < i → i < z.length → ci z i ≠ ci z j) := Lib.hid fun i j h1 h2 => HDIS.out i j h1 h2
          by_cases h32 : 32 < z.length
          · have hd32 : decide ((32 : Int) < (z.length : Int)) = true := decide_eq_true (by omega)
            go_wp2_with fail
            go_ret2
            exact ⟨Below.refl _ _, .inr ⟨HALL.out, .inr ⟨HDS.out, .inl ⟨h32, rfl⟩⟩⟩⟩
          · have hd32 : decide ((32 : Int) < (z.length : Int)) = false := decide_eq_false (by omega)
            obtain ⟨w4, hw4⟩ : ∃ w4, W2.alloc (.cells (bytesV [1]).toArray 5) = w4 := ⟨_, rfl⟩
            have hb4 : Below W2.heap.size W2 w4 := by rw [← hw4]; exact (Below.refl _ _).alloc (Nat.le_refl _) _
            have hr4 : RowV (tr (prodL (fun r => [1, r]) (xsL n z) 0)) (.slice (some ⟨W2.heap.size, 0, none⟩) 1 1) w4 := by
              show RowV (tr [1]) _ _
              rw [tr_one, ← hw4]
              exact ⟨_, _, rfl, row_cells (World.alloc_heap_new _ _) (by unfold maxLen; simp)⟩
            have HB4 := Lib.hid hb4
            have HR4 := Lib.hid hr4
            have HW4 := Lib.hid hw4
            clear hb4 hr4 hw4
            go_wp2_with fail
            rw [show W2.alloc (.cells #[.int .u8 1] 5) = w4 from HW4.out]
            go_loopw [12, 14, 58] (fun v _ i w5 => E4At n z W2 v i w5) (fun _ _ i _ => z.length - (intOf i).toNat)
            case atStart => exact ⟨0, Nat.zero_le _, rfl, HR4.out, HB4.out⟩
            case round =>
              rename World => W5
              clear HR4 HB4 HW4
              obtain ⟨k, hk, rfl, hv, hb⟩ := hrel
              have HV := Lib.hid hv
              have HB := Lib.hid hb
              by_cases hlt4 : k < z.length
              · obtain ⟨b, off, rfl, hcell⟩ := HC.out W5 hb k hlt4
                have hin := HALL.out k hlt4
                have HX := Lib.hid (co_xsL n z k hlt4)
                obtain ⟨p, hp⟩ := Int.eq_ofNat_of_zero_le hin.1
                rw [hp] at hcell hin
                have hpn : p < n := by omega
                have HPW : Hid (∀ v, Calls Tryz.prog 44 #[.int .i64 (n : Int), .int .i64 (p : Int)] v fun e w' => e = .returned (.int .u8 ((co (xsL n z) k).toNat : Int)) ∧ w' = v) := Lib.hid fun v => by
                  rw [HX.out, hp]
                  exact rplace_any n p hpn hn2 v
                have HST := Lib.hid (inv_step (xsL n z) k)
                obtain ⟨x, hx⟩ : ∃ x, co (xsL n z) k = x := ⟨_, rfl⟩
                rw [hx] at HPW HST
                have hxl := UInt8.toNat_lt x
                have hlen := tr_le (prodL (fun r => [1, r]) (xsL n z) k)
                rw [prodL_length _ _ (fun _ => rfl)] at hlen
                have HLE := Lib.hid hlen
                obtain ⟨o6, c6, rfl, hv6⟩ := hv
                have HV6 := Lib.hid hv6
                have hk0 : (0 : Int) ≤ (k : Int) := by omega
                have hk1 : (k : Int) < (z.length : Int) := by omega
                generalize tr (prodL (fun r => [1, r]) (xsL n z) k) = M at *
                clear hp hx hlen hv6 hb HV hin
                go_wp2_with fail
                refine (HPW.out _).mono ?_; rintro e w6 ⟨rfl, rfl⟩
                obtain ⟨w7, hw7⟩ : ∃ w7, w6.alloc (.cells (bytesV [1, x]).toArray 5) = w7 := ⟨_, rfl⟩
                have hb7 : Below w6.heap.size w6 w7 := by rw [← hw7]; exact (Below.refl _ _).alloc (Nat.le_refl _) _
                have hr7 : RowIs w7 (some ⟨w6.heap.size, 0, none⟩) (bytesV [1, x]) 2 := by rw [← hw7]; exact row_cells (World.alloc_heap_new _ _) (by unfold maxLen; simp)
                have hmu := rmulp_any M [1, x] _ _ _ _ w7 (HV6.out.later hb7) hr7 (by have := HLE.out; simp; omega)
                rw [HST.out, ← hw7] at hmu
                have HMU := Lib.hid hmu
                have HB7 := Lib.hid (Kit.step HB.out hb7)
                have HW7 := Lib.hid hw7
                clear hmu hb7 hr7 hw7
                go_wp2_with fail
                refine HMU.out.mono ?_; rintro e w8 ⟨v8, rfl, hr8, hb8⟩
                rw [HW7.out] at hb8
                have HR8 := Lib.hid hr8
                have HB8 := Lib.hid (Kit.step HB7.out hb8)
                clear hr8 hb8 HMU
                go_wp2_with fail
                go_roundw
                case rel => exact ⟨k + 1, by omega, by go_num, HR8.out, HB8.out⟩
                case measure => simp [intOf]; omega
              · obtain rfl : k = z.length := by omega
                clear hv hb
                go_wp2_with fail
                go_ret2
                exact ⟨HB.out, .inr ⟨HALL.out, .inr ⟨HDS.out, .inr ⟨by omega, _, rfl, HV.out⟩⟩⟩⟩
end Go.Proofs.YtgchfijeiggimaaGreatDoor
