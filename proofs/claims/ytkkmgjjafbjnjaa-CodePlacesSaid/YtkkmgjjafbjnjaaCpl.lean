/- The walk of CodePlaces. -/
import Derived.Test.YtkkmgjjafbjnjaaAl3
import Derived.Test.YtkkmgjjafbjnjaaCp
namespace Go.Proofs.Ytkkmgjjafbjnjaa
open Go.RowKit
set_option linter.unusedVariables false
set_option linter.unusedSimpArgs false
/-- what each operation of the region has as its result -/
def CplG (n p : Int) (i : Nat) (x : Value) (v : World) : Prop :=
  match i with
  | 0 => (x) = .int .i64 n
  | 1 => (x) = .int .i64 p
  | 2 | 3 => (x) = .int .u8 ((pwv n p).toNat : Int)
  | 6 | 8 => RowV (genL 32) (x) v
  | 7 | 9 => (x) = .string ⟨(genL 32).toArray⟩
  | _ => (x) = .bool true
theorem CplG.later {n p : Int} (i : Nat) (x : Value) (v v' : World) (h : CplG n p i x v) (hb : Below v.heap.size v v') : CplG n p i x v' := by
  unfold CplG at *
  split at h <;> first | exact h | exact h.later hb
theorem sized_is (n : Int) (B : Bool) (h : decide (33 ≤ n ∧ n ≤ 255) = B) (w : World) : Calls Try.prog 5 #[.int .i64 n] w fun e w' => e = .returned (.bool B) ∧ w' = w := by
  have := sized_any n w
  rwa [h] at this
set_option maxRecDepth 100000 in
set_option maxHeartbeats 2000000 in
theorem cpl_in (n p : Int) (w : World) (h : 33 ≤ n ∧ n ≤ 255 ∧ 0 ≤ p ∧ p < n) (hn1 : -9223372036854775808 ≤ n) (hn2 : n ≤ 9223372036854775807) (hp1 : -9223372036854775808 ≤ p) (hp2 : p ≤ 9223372036854775807) :
    Calls Try.prog 3 #[.int .i64 n, .int .i64 p] w fun e w' => e = .returned (.bool true) ∧ Below w.heap.size w w' := by
  have S1 : Hid (∀ w, Calls Try.prog 5 #[.int .i64 n] w fun e w' => e = .returned (.bool true) ∧ w' = w) := Lib.hid (sized_is n true (decide_eq_true (by omega)))
  have hd1 : decide (0 ≤ p) = true := decide_eq_true h.2.2.1
  have hd2 : decide (p < n) = true := decide_eq_true h.2.2.2
  have H : Hid (pwv n p = Gf.al (n - 1 - p).toNat) := Lib.hid (if_pos h)
  have R : Hid (∀ w, Calls Try.prog 6 #[.int .i64 n, .int .i64 p] w fun e w' => e = .returned (.int .u8 ((pwv n p).toNat : Int)) ∧ w' = w) := Lib.hid fun w => by
    obtain ⟨N, hN⟩ := Int.eq_ofNat_of_zero_le (by omega : 0 ≤ n)
    obtain ⟨M, hM⟩ := Int.eq_ofNat_of_zero_le h.2.2.1
    have := rplace_any N M (by omega) (by omega) w
    rw [H.out, show (n - 1 - p).toNat = N - 1 - M by omega, hN, hM]
    exact this
  clear h
  go_enter Try.func3, Try.ntmps3
  go_wp2_with fail
  refine (alive3_any _).mono ?_; rintro e w1 ⟨rfl, hg⟩
  have HG1 := Lib.hid hg
  clear hg
  go_wp2_with fail
  refine (S1.out _).mono ?_; rintro e w2 ⟨rfl, hw2⟩
  have HG1 : Hid (Below w.heap.size w w2) := Lib.hid (by rw [hw2]; exact HG1.out)
  clear hw2
  go_wp2_with fail
  refine (R.out _).mono ?_; rintro e w3 ⟨rfl, hw3⟩
  have HG1 : Hid (Below w.heap.size w w3) := Lib.hid (by rw [hw3]; exact HG1.out)
  clear hw3
  go_wp2_with fail
  refine Rg.region_grow (by kernel_rfl) (CplG n p) (by kernel_rfl) CplG.later ?gd ?step ?fin
  case gd =>
    intro i op k t ho hg x v hG
    have hi := (Array.getElem?_eq_some_iff.1 ho).1
    match i, hi with
    | 0, _ =>
      obtain rfl := Option.some.inj ho
      cases hg
    | 1, _ =>
      obtain rfl := Option.some.inj ho
      cases hg
    | 2, _ =>
      obtain rfl := Option.some.inj ho
      cases hg
    | 3, _ =>
      obtain rfl := Option.some.inj ho
      cases hg
    | 4, _ =>
      obtain rfl := Option.some.inj ho
      cases hg
    | 5, _ =>
      obtain rfl := Option.some.inj ho
      cases hg
    | 6, _ =>
      obtain rfl := Option.some.inj ho
      obtain ⟨rfl, rfl⟩ : 5 = k ∧ true = t := by simpa using hg
      exact hG
    | 7, _ =>
      obtain rfl := Option.some.inj ho
      obtain ⟨rfl, rfl⟩ : 5 = k ∧ true = t := by simpa using hg
      exact hG
    | 8, _ =>
      obtain rfl := Option.some.inj ho
      obtain ⟨rfl, rfl⟩ : 5 = k ∧ true = t := by simpa using hg
      exact hG
    | 9, _ =>
      obtain rfl := Option.some.inj ho
      obtain ⟨rfl, rfl⟩ : 5 = k ∧ true = t := by simpa using hg
      exact hG
    | 10, _ =>
      obtain rfl := Option.some.inj ho
      obtain ⟨rfl, rfl⟩ : 5 = k ∧ true = t := by simpa using hg
      exact hG
    | 11, _ =>
      obtain rfl := Option.some.inj ho
      cases hg
    | 12, _ =>
      obtain rfl := Option.some.inj ho
      cases hg
    | n + 13, h => exact absurd h (by simp)
  case step =>
    intro i op b v ho hb hrest hdep
    have r0 : b.eval (.tmp 0) = .int .i64 n := hrest 0 (Rg.free_spec (by kernel_rfl))
    have r1 : b.eval (.tmp 1) = .int .i64 p := hrest 1 (Rg.free_spec (by kernel_rfl))
    have r5 : b.eval (.tmp 5) = .int .u8 ((pwv n p).toNat : Int) := hrest 5 (Rg.free_spec (by kernel_rfl))
    have hv5 : (.int .u8 ((pwv n p).toNat : Int) : Value) = .int .u8 ((pwv n p).toNat : Int) := rfl
    have r5 := r5.trans hv5
    have hi := (Array.getElem?_eq_some_iff.1 ho).1
    match i, hi with
    | 0, _ =>
      obtain rfl := Option.some.inj ho
      have d1 : b.eval (.tmp 0) = .int .i64 n := r0
      exact Rg.does_move rfl d1
    | 1, _ =>
      obtain rfl := Option.some.inj ho
      have d1 : b.eval (.tmp 1) = .int .i64 p := r1
      exact Rg.does_move rfl d1
    | 2, _ =>
      obtain rfl := Option.some.inj ho
      have d1 : (b.eval (.tmp 22)) = .int .i64 n := hdep ⟨0, .data⟩ (by simp) rfl _ _ rfl rfl
      have d2 : (b.eval (.tmp 23)) = .int .i64 p := hdep ⟨1, .data⟩ (by simp) rfl _ _ rfl rfl
      exact Rg.does_fn rfl (enters_of Try.func7 (by kernel_rfl) rfl) (args := #[b.eval (.tmp 22), b.eval (.tmp 23)]) (by simp) (by rw [d1, d2]; exact (cpower_any n p v).mono fun e v' ⟨h1, h2⟩ => ⟨_, h1, rfl, by rw [h2]; exact Below.refl _ _⟩)
    | 3, _ =>
      obtain rfl := Option.some.inj ho
      have d1 : b.eval (.tmp 5) = .int .u8 ((pwv n p).toNat : Int) := r5
      exact Rg.does_move rfl d1
    | 4, _ =>
      obtain rfl := Option.some.inj ho
      have d1 : (b.eval (.tmp 24)) = .int .u8 ((pwv n p).toNat : Int) := hdep ⟨2, .data⟩ (by simp) rfl _ _ rfl rfl
      have d2 : (b.eval (.tmp 25)) = .int .u8 ((pwv n p).toNat : Int) := hdep ⟨3, .data⟩ (by simp) rfl _ _ rfl rfl
      have f1 : b.tmps[24]?.getD undef = _ := (show _ = b.eval (.tmp 24) by simp [Act.eval]).trans d1
      have f2 : b.tmps[25]?.getD undef = _ := (show _ = b.eval (.tmp 25) by simp [Act.eval]).trans d2
      refine Rg.does_pure (.bool true) ?_ rfl
      simp only [execOp]
      go_simp
    | 5, _ =>
      obtain rfl := Option.some.inj ho
      have d1 : (b.eval (.tmp 26)) = .bool true := hdep ⟨4, .data⟩ (by simp) rfl _ _ rfl rfl
      exact Rg.does_move rfl d1
    | 6, _ =>
      obtain rfl := Option.some.inj ho
      exact Rg.does_fn rfl (enters_of Try.func8 (by kernel_rfl) rfl) (args := #[]) (by simp) (cgen_any v)
    | 7, _ =>
      obtain rfl := Option.some.inj ho
      have d1 : RowV (genL 32) (b.eval (.tmp 28)) v := hdep ⟨6, .data⟩ (by simp) rfl _ _ rfl rfl
      exact Rg.does_conv rfl (conv_rv d1) (rfl)
    | 8, _ =>
      obtain rfl := Option.some.inj ho
      exact Rg.does_fn rfl (enters_of Try.func9 (by kernel_rfl) rfl) (args := #[]) (by simp) (rgen_any v)
    | 9, _ =>
      obtain rfl := Option.some.inj ho
      have d1 : RowV (genL 32) (b.eval (.tmp 30)) v := hdep ⟨8, .data⟩ (by simp) rfl _ _ rfl rfl
      exact Rg.does_conv rfl (conv_rv d1) (rfl)
    | 10, _ =>
      obtain rfl := Option.some.inj ho
      have d1 : (b.eval (.tmp 29)) = .string ⟨(genL 32).toArray⟩ := hdep ⟨7, .data⟩ (by simp) rfl _ _ rfl rfl
      have d2 : (b.eval (.tmp 31)) = .string ⟨(genL 32).toArray⟩ := hdep ⟨9, .data⟩ (by simp) rfl _ _ rfl rfl
      have f1 : b.tmps[29]?.getD undef = _ := (show _ = b.eval (.tmp 29) by simp [Act.eval]).trans d1
      have f2 : b.tmps[31]?.getD undef = _ := (show _ = b.eval (.tmp 31) by simp [Act.eval]).trans d2
      refine Rg.does_pure (.bool true) ?_ rfl
      have hu := Try.underlying9
      simp only [execOp]
      go_simp
    | 11, _ =>
      obtain rfl := Option.some.inj ho
      have d1 : (b.eval (.tmp 27)) = .bool true := hdep ⟨5, .data⟩ (by simp) rfl _ _ rfl rfl
      have d2 : (b.eval (.tmp 32)) = .bool true := hdep ⟨10, .data⟩ (by simp) rfl _ _ rfl rfl
      exact Rg.does_pick rfl d1 d2
    | 12, _ =>
      obtain rfl := Option.some.inj ho
      have d1 : (b.eval (.tmp 33)) = .bool true := hdep ⟨11, .data⟩ (by simp) rfl _ _ rfl rfl
      exact Rg.does_assign rfl d1
    | n + 13, h => exact absurd h (by simp)
  case fin =>
    intro b v2 hb2 hs hd hrest hall
    have h4 : b.tmps.getD 4 undef = .bool true := hall 12 _ 4 rfl rfl
    have HB := Lib.hid (Kit.step HG1.out hb2)
    go_wp2
    refine bodyPost_ret (results_tmp rfl _ _ _) hd ?_
    exact ⟨by rw [h4], HB.out⟩
set_option maxRecDepth 100000 in
set_option maxHeartbeats 2000000 in
theorem cpl_size (n p : Int) (w : World) (h : ¬ (33 ≤ n ∧ n ≤ 255)) (hn1 : -9223372036854775808 ≤ n) (hn2 : n ≤ 9223372036854775807) (hp1 : -9223372036854775808 ≤ p) (hp2 : p ≤ 9223372036854775807) :
    Calls Try.prog 3 #[.int .i64 n, .int .i64 p] w fun e w' => e = .returned (.bool true) ∧ Below w.heap.size w w' := by
  have S1 : Hid (∀ w, Calls Try.prog 5 #[.int .i64 n] w fun e w' => e = .returned (.bool false) ∧ w' = w) := Lib.hid (sized_is n false (decide_eq_false h))
  have H : Hid (pwv n p = 0) := Lib.hid (if_neg (by omega))
  clear h
  go_enter Try.func3, Try.ntmps3
  go_wp2_with fail
  refine (alive3_any _).mono ?_; rintro e w1 ⟨rfl, hg⟩
  have HG1 := Lib.hid hg
  clear hg
  go_wp2_with fail
  refine (S1.out _).mono ?_; rintro e w2 ⟨rfl, hw2⟩
  have HG1 : Hid (Below w.heap.size w w2) := Lib.hid (by rw [hw2]; exact HG1.out)
  clear hw2
  go_wp2_with fail
  refine Rg.region_grow (by kernel_rfl) (CplG n p) (by kernel_rfl) CplG.later ?gd ?step ?fin
  case gd =>
    intro i op k t ho hg x v hG
    have hi := (Array.getElem?_eq_some_iff.1 ho).1
    match i, hi with
    | 0, _ =>
      obtain rfl := Option.some.inj ho
      cases hg
    | 1, _ =>
      obtain rfl := Option.some.inj ho
      cases hg
    | 2, _ =>
      obtain rfl := Option.some.inj ho
      cases hg
    | 3, _ =>
      obtain rfl := Option.some.inj ho
      cases hg
    | 4, _ =>
      obtain rfl := Option.some.inj ho
      cases hg
    | 5, _ =>
      obtain rfl := Option.some.inj ho
      cases hg
    | 6, _ =>
      obtain rfl := Option.some.inj ho
      obtain ⟨rfl, rfl⟩ : 5 = k ∧ true = t := by simpa using hg
      exact hG
    | 7, _ =>
      obtain rfl := Option.some.inj ho
      obtain ⟨rfl, rfl⟩ : 5 = k ∧ true = t := by simpa using hg
      exact hG
    | 8, _ =>
      obtain rfl := Option.some.inj ho
      obtain ⟨rfl, rfl⟩ : 5 = k ∧ true = t := by simpa using hg
      exact hG
    | 9, _ =>
      obtain rfl := Option.some.inj ho
      obtain ⟨rfl, rfl⟩ : 5 = k ∧ true = t := by simpa using hg
      exact hG
    | 10, _ =>
      obtain rfl := Option.some.inj ho
      obtain ⟨rfl, rfl⟩ : 5 = k ∧ true = t := by simpa using hg
      exact hG
    | 11, _ =>
      obtain rfl := Option.some.inj ho
      cases hg
    | 12, _ =>
      obtain rfl := Option.some.inj ho
      cases hg
    | n + 13, h => exact absurd h (by simp)
  case step =>
    intro i op b v ho hb hrest hdep
    have r0 : b.eval (.tmp 0) = .int .i64 n := hrest 0 (Rg.free_spec (by kernel_rfl))
    have r1 : b.eval (.tmp 1) = .int .i64 p := hrest 1 (Rg.free_spec (by kernel_rfl))
    have r5 : b.eval (.tmp 5) = .int .u8 0 := hrest 5 (Rg.free_spec (by kernel_rfl))
    have hv5 : (.int .u8 0 : Value) = .int .u8 ((pwv n p).toNat : Int) := by rw [H.out]; rfl
    have r5 := r5.trans hv5
    have hi := (Array.getElem?_eq_some_iff.1 ho).1
    match i, hi with
    | 0, _ =>
      obtain rfl := Option.some.inj ho
      have d1 : b.eval (.tmp 0) = .int .i64 n := r0
      exact Rg.does_move rfl d1
    | 1, _ =>
      obtain rfl := Option.some.inj ho
      have d1 : b.eval (.tmp 1) = .int .i64 p := r1
      exact Rg.does_move rfl d1
    | 2, _ =>
      obtain rfl := Option.some.inj ho
      have d1 : (b.eval (.tmp 22)) = .int .i64 n := hdep ⟨0, .data⟩ (by simp) rfl _ _ rfl rfl
      have d2 : (b.eval (.tmp 23)) = .int .i64 p := hdep ⟨1, .data⟩ (by simp) rfl _ _ rfl rfl
      exact Rg.does_fn rfl (enters_of Try.func7 (by kernel_rfl) rfl) (args := #[b.eval (.tmp 22), b.eval (.tmp 23)]) (by simp) (by rw [d1, d2]; exact (cpower_any n p v).mono fun e v' ⟨h1, h2⟩ => ⟨_, h1, rfl, by rw [h2]; exact Below.refl _ _⟩)
    | 3, _ =>
      obtain rfl := Option.some.inj ho
      have d1 : b.eval (.tmp 5) = .int .u8 ((pwv n p).toNat : Int) := r5
      exact Rg.does_move rfl d1
    | 4, _ =>
      obtain rfl := Option.some.inj ho
      have d1 : (b.eval (.tmp 24)) = .int .u8 ((pwv n p).toNat : Int) := hdep ⟨2, .data⟩ (by simp) rfl _ _ rfl rfl
      have d2 : (b.eval (.tmp 25)) = .int .u8 ((pwv n p).toNat : Int) := hdep ⟨3, .data⟩ (by simp) rfl _ _ rfl rfl
      have f1 : b.tmps[24]?.getD undef = _ := (show _ = b.eval (.tmp 24) by simp [Act.eval]).trans d1
      have f2 : b.tmps[25]?.getD undef = _ := (show _ = b.eval (.tmp 25) by simp [Act.eval]).trans d2
      refine Rg.does_pure (.bool true) ?_ rfl
      simp only [execOp]
      go_simp
    | 5, _ =>
      obtain rfl := Option.some.inj ho
      have d1 : (b.eval (.tmp 26)) = .bool true := hdep ⟨4, .data⟩ (by simp) rfl _ _ rfl rfl
      exact Rg.does_move rfl d1
    | 6, _ =>
      obtain rfl := Option.some.inj ho
      exact Rg.does_fn rfl (enters_of Try.func8 (by kernel_rfl) rfl) (args := #[]) (by simp) (cgen_any v)
    | 7, _ =>
      obtain rfl := Option.some.inj ho
      have d1 : RowV (genL 32) (b.eval (.tmp 28)) v := hdep ⟨6, .data⟩ (by simp) rfl _ _ rfl rfl
      exact Rg.does_conv rfl (conv_rv d1) (rfl)
    | 8, _ =>
      obtain rfl := Option.some.inj ho
      exact Rg.does_fn rfl (enters_of Try.func9 (by kernel_rfl) rfl) (args := #[]) (by simp) (rgen_any v)
    | 9, _ =>
      obtain rfl := Option.some.inj ho
      have d1 : RowV (genL 32) (b.eval (.tmp 30)) v := hdep ⟨8, .data⟩ (by simp) rfl _ _ rfl rfl
      exact Rg.does_conv rfl (conv_rv d1) (rfl)
    | 10, _ =>
      obtain rfl := Option.some.inj ho
      have d1 : (b.eval (.tmp 29)) = .string ⟨(genL 32).toArray⟩ := hdep ⟨7, .data⟩ (by simp) rfl _ _ rfl rfl
      have d2 : (b.eval (.tmp 31)) = .string ⟨(genL 32).toArray⟩ := hdep ⟨9, .data⟩ (by simp) rfl _ _ rfl rfl
      have f1 : b.tmps[29]?.getD undef = _ := (show _ = b.eval (.tmp 29) by simp [Act.eval]).trans d1
      have f2 : b.tmps[31]?.getD undef = _ := (show _ = b.eval (.tmp 31) by simp [Act.eval]).trans d2
      refine Rg.does_pure (.bool true) ?_ rfl
      have hu := Try.underlying9
      simp only [execOp]
      go_simp
    | 11, _ =>
      obtain rfl := Option.some.inj ho
      have d1 : (b.eval (.tmp 27)) = .bool true := hdep ⟨5, .data⟩ (by simp) rfl _ _ rfl rfl
      have d2 : (b.eval (.tmp 32)) = .bool true := hdep ⟨10, .data⟩ (by simp) rfl _ _ rfl rfl
      exact Rg.does_pick rfl d1 d2
    | 12, _ =>
      obtain rfl := Option.some.inj ho
      have d1 : (b.eval (.tmp 33)) = .bool true := hdep ⟨11, .data⟩ (by simp) rfl _ _ rfl rfl
      exact Rg.does_assign rfl d1
    | n + 13, h => exact absurd h (by simp)
  case fin =>
    intro b v2 hb2 hs hd hrest hall
    have h4 : b.tmps.getD 4 undef = .bool true := hall 12 _ 4 rfl rfl
    have HB := Lib.hid (Kit.step HG1.out hb2)
    go_wp2
    refine bodyPost_ret (results_tmp rfl _ _ _) hd ?_
    exact ⟨by rw [h4], HB.out⟩
set_option maxRecDepth 100000 in
set_option maxHeartbeats 2000000 in
theorem cpl_neg (n p : Int) (w : World) (h : (33 ≤ n ∧ n ≤ 255) ∧ ¬ 0 ≤ p) (hn1 : -9223372036854775808 ≤ n) (hn2 : n ≤ 9223372036854775807) (hp1 : -9223372036854775808 ≤ p) (hp2 : p ≤ 9223372036854775807) :
    Calls Try.prog 3 #[.int .i64 n, .int .i64 p] w fun e w' => e = .returned (.bool true) ∧ Below w.heap.size w w' := by
  have S1 : Hid (∀ w, Calls Try.prog 5 #[.int .i64 n] w fun e w' => e = .returned (.bool true) ∧ w' = w) := Lib.hid (sized_is n true (decide_eq_true h.1))
  have hd1 : decide (0 ≤ p) = false := decide_eq_false h.2
  have H : Hid (pwv n p = 0) := Lib.hid (if_neg (by omega))
  clear h
  go_enter Try.func3, Try.ntmps3
  go_wp2_with fail
  refine (alive3_any _).mono ?_; rintro e w1 ⟨rfl, hg⟩
  have HG1 := Lib.hid hg
  clear hg
  go_wp2_with fail
  refine (S1.out _).mono ?_; rintro e w2 ⟨rfl, hw2⟩
  have HG1 : Hid (Below w.heap.size w w2) := Lib.hid (by rw [hw2]; exact HG1.out)
  clear hw2
  go_wp2_with fail
  refine Rg.region_grow (by kernel_rfl) (CplG n p) (by kernel_rfl) CplG.later ?gd ?step ?fin
  case gd =>
    intro i op k t ho hg x v hG
    have hi := (Array.getElem?_eq_some_iff.1 ho).1
    match i, hi with
    | 0, _ =>
      obtain rfl := Option.some.inj ho
      cases hg
    | 1, _ =>
      obtain rfl := Option.some.inj ho
      cases hg
    | 2, _ =>
      obtain rfl := Option.some.inj ho
      cases hg
    | 3, _ =>
      obtain rfl := Option.some.inj ho
      cases hg
    | 4, _ =>
      obtain rfl := Option.some.inj ho
      cases hg
    | 5, _ =>
      obtain rfl := Option.some.inj ho
      cases hg
    | 6, _ =>
      obtain rfl := Option.some.inj ho
      obtain ⟨rfl, rfl⟩ : 5 = k ∧ true = t := by simpa using hg
      exact hG
    | 7, _ =>
      obtain rfl := Option.some.inj ho
      obtain ⟨rfl, rfl⟩ : 5 = k ∧ true = t := by simpa using hg
      exact hG
    | 8, _ =>
      obtain rfl := Option.some.inj ho
      obtain ⟨rfl, rfl⟩ : 5 = k ∧ true = t := by simpa using hg
      exact hG
    | 9, _ =>
      obtain rfl := Option.some.inj ho
      obtain ⟨rfl, rfl⟩ : 5 = k ∧ true = t := by simpa using hg
      exact hG
    | 10, _ =>
      obtain rfl := Option.some.inj ho
      obtain ⟨rfl, rfl⟩ : 5 = k ∧ true = t := by simpa using hg
      exact hG
    | 11, _ =>
      obtain rfl := Option.some.inj ho
      cases hg
    | 12, _ =>
      obtain rfl := Option.some.inj ho
      cases hg
    | n + 13, h => exact absurd h (by simp)
  case step =>
    intro i op b v ho hb hrest hdep
    have r0 : b.eval (.tmp 0) = .int .i64 n := hrest 0 (Rg.free_spec (by kernel_rfl))
    have r1 : b.eval (.tmp 1) = .int .i64 p := hrest 1 (Rg.free_spec (by kernel_rfl))
    have r5 : b.eval (.tmp 5) = .int .u8 0 := hrest 5 (Rg.free_spec (by kernel_rfl))
    have hv5 : (.int .u8 0 : Value) = .int .u8 ((pwv n p).toNat : Int) := by rw [H.out]; rfl
    have r5 := r5.trans hv5
    have hi := (Array.getElem?_eq_some_iff.1 ho).1
    match i, hi with
    | 0, _ =>
      obtain rfl := Option.some.inj ho
      have d1 : b.eval (.tmp 0) = .int .i64 n := r0
      exact Rg.does_move rfl d1
    | 1, _ =>
      obtain rfl := Option.some.inj ho
      have d1 : b.eval (.tmp 1) = .int .i64 p := r1
      exact Rg.does_move rfl d1
    | 2, _ =>
      obtain rfl := Option.some.inj ho
      have d1 : (b.eval (.tmp 22)) = .int .i64 n := hdep ⟨0, .data⟩ (by simp) rfl _ _ rfl rfl
      have d2 : (b.eval (.tmp 23)) = .int .i64 p := hdep ⟨1, .data⟩ (by simp) rfl _ _ rfl rfl
      exact Rg.does_fn rfl (enters_of Try.func7 (by kernel_rfl) rfl) (args := #[b.eval (.tmp 22), b.eval (.tmp 23)]) (by simp) (by rw [d1, d2]; exact (cpower_any n p v).mono fun e v' ⟨h1, h2⟩ => ⟨_, h1, rfl, by rw [h2]; exact Below.refl _ _⟩)
    | 3, _ =>
      obtain rfl := Option.some.inj ho
      have d1 : b.eval (.tmp 5) = .int .u8 ((pwv n p).toNat : Int) := r5
      exact Rg.does_move rfl d1
    | 4, _ =>
      obtain rfl := Option.some.inj ho
      have d1 : (b.eval (.tmp 24)) = .int .u8 ((pwv n p).toNat : Int) := hdep ⟨2, .data⟩ (by simp) rfl _ _ rfl rfl
      have d2 : (b.eval (.tmp 25)) = .int .u8 ((pwv n p).toNat : Int) := hdep ⟨3, .data⟩ (by simp) rfl _ _ rfl rfl
      have f1 : b.tmps[24]?.getD undef = _ := (show _ = b.eval (.tmp 24) by simp [Act.eval]).trans d1
      have f2 : b.tmps[25]?.getD undef = _ := (show _ = b.eval (.tmp 25) by simp [Act.eval]).trans d2
      refine Rg.does_pure (.bool true) ?_ rfl
      simp only [execOp]
      go_simp
    | 5, _ =>
      obtain rfl := Option.some.inj ho
      have d1 : (b.eval (.tmp 26)) = .bool true := hdep ⟨4, .data⟩ (by simp) rfl _ _ rfl rfl
      exact Rg.does_move rfl d1
    | 6, _ =>
      obtain rfl := Option.some.inj ho
      exact Rg.does_fn rfl (enters_of Try.func8 (by kernel_rfl) rfl) (args := #[]) (by simp) (cgen_any v)
    | 7, _ =>
      obtain rfl := Option.some.inj ho
      have d1 : RowV (genL 32) (b.eval (.tmp 28)) v := hdep ⟨6, .data⟩ (by simp) rfl _ _ rfl rfl
      exact Rg.does_conv rfl (conv_rv d1) (rfl)
    | 8, _ =>
      obtain rfl := Option.some.inj ho
      exact Rg.does_fn rfl (enters_of Try.func9 (by kernel_rfl) rfl) (args := #[]) (by simp) (rgen_any v)
    | 9, _ =>
      obtain rfl := Option.some.inj ho
      have d1 : RowV (genL 32) (b.eval (.tmp 30)) v := hdep ⟨8, .data⟩ (by simp) rfl _ _ rfl rfl
      exact Rg.does_conv rfl (conv_rv d1) (rfl)
    | 10, _ =>
      obtain rfl := Option.some.inj ho
      have d1 : (b.eval (.tmp 29)) = .string ⟨(genL 32).toArray⟩ := hdep ⟨7, .data⟩ (by simp) rfl _ _ rfl rfl
      have d2 : (b.eval (.tmp 31)) = .string ⟨(genL 32).toArray⟩ := hdep ⟨9, .data⟩ (by simp) rfl _ _ rfl rfl
      have f1 : b.tmps[29]?.getD undef = _ := (show _ = b.eval (.tmp 29) by simp [Act.eval]).trans d1
      have f2 : b.tmps[31]?.getD undef = _ := (show _ = b.eval (.tmp 31) by simp [Act.eval]).trans d2
      refine Rg.does_pure (.bool true) ?_ rfl
      have hu := Try.underlying9
      simp only [execOp]
      go_simp
    | 11, _ =>
      obtain rfl := Option.some.inj ho
      have d1 : (b.eval (.tmp 27)) = .bool true := hdep ⟨5, .data⟩ (by simp) rfl _ _ rfl rfl
      have d2 : (b.eval (.tmp 32)) = .bool true := hdep ⟨10, .data⟩ (by simp) rfl _ _ rfl rfl
      exact Rg.does_pick rfl d1 d2
    | 12, _ =>
      obtain rfl := Option.some.inj ho
      have d1 : (b.eval (.tmp 33)) = .bool true := hdep ⟨11, .data⟩ (by simp) rfl _ _ rfl rfl
      exact Rg.does_assign rfl d1
    | n + 13, h => exact absurd h (by simp)
  case fin =>
    intro b v2 hb2 hs hd hrest hall
    have h4 : b.tmps.getD 4 undef = .bool true := hall 12 _ 4 rfl rfl
    have HB := Lib.hid (Kit.step HG1.out hb2)
    go_wp2
    refine bodyPost_ret (results_tmp rfl _ _ _) hd ?_
    exact ⟨by rw [h4], HB.out⟩
set_option maxRecDepth 100000 in
set_option maxHeartbeats 2000000 in
theorem cpl_far (n p : Int) (w : World) (h : (33 ≤ n ∧ n ≤ 255) ∧ 0 ≤ p ∧ ¬ p < n) (hn1 : -9223372036854775808 ≤ n) (hn2 : n ≤ 9223372036854775807) (hp1 : -9223372036854775808 ≤ p) (hp2 : p ≤ 9223372036854775807) :
    Calls Try.prog 3 #[.int .i64 n, .int .i64 p] w fun e w' => e = .returned (.bool true) ∧ Below w.heap.size w w' := by
  have S1 : Hid (∀ w, Calls Try.prog 5 #[.int .i64 n] w fun e w' => e = .returned (.bool true) ∧ w' = w) := Lib.hid (sized_is n true (decide_eq_true h.1))
  have hd1 : decide (0 ≤ p) = true := decide_eq_true h.2.1
  have hd2 : decide (p < n) = false := decide_eq_false h.2.2
  have H : Hid (pwv n p = 0) := Lib.hid (if_neg (by omega))
  clear h
  go_enter Try.func3, Try.ntmps3
  go_wp2_with fail
  refine (alive3_any _).mono ?_; rintro e w1 ⟨rfl, hg⟩
  have HG1 := Lib.hid hg
  clear hg
  go_wp2_with fail
  refine (S1.out _).mono ?_; rintro e w2 ⟨rfl, hw2⟩
  have HG1 : Hid (Below w.heap.size w w2) := Lib.hid (by rw [hw2]; exact HG1.out)
  clear hw2
  go_wp2_with fail
  refine Rg.region_grow (by kernel_rfl) (CplG n p) (by kernel_rfl) CplG.later ?gd ?step ?fin
  case gd =>
    intro i op k t ho hg x v hG
    have hi := (Array.getElem?_eq_some_iff.1 ho).1
    match i, hi with
    | 0, _ =>
      obtain rfl := Option.some.inj ho
      cases hg
    | 1, _ =>
      obtain rfl := Option.some.inj ho
      cases hg
    | 2, _ =>
      obtain rfl := Option.some.inj ho
      cases hg
    | 3, _ =>
      obtain rfl := Option.some.inj ho
      cases hg
    | 4, _ =>
      obtain rfl := Option.some.inj ho
      cases hg
    | 5, _ =>
      obtain rfl := Option.some.inj ho
      cases hg
    | 6, _ =>
      obtain rfl := Option.some.inj ho
      obtain ⟨rfl, rfl⟩ : 5 = k ∧ true = t := by simpa using hg
      exact hG
    | 7, _ =>
      obtain rfl := Option.some.inj ho
      obtain ⟨rfl, rfl⟩ : 5 = k ∧ true = t := by simpa using hg
      exact hG
    | 8, _ =>
      obtain rfl := Option.some.inj ho
      obtain ⟨rfl, rfl⟩ : 5 = k ∧ true = t := by simpa using hg
      exact hG
    | 9, _ =>
      obtain rfl := Option.some.inj ho
      obtain ⟨rfl, rfl⟩ : 5 = k ∧ true = t := by simpa using hg
      exact hG
    | 10, _ =>
      obtain rfl := Option.some.inj ho
      obtain ⟨rfl, rfl⟩ : 5 = k ∧ true = t := by simpa using hg
      exact hG
    | 11, _ =>
      obtain rfl := Option.some.inj ho
      cases hg
    | 12, _ =>
      obtain rfl := Option.some.inj ho
      cases hg
    | n + 13, h => exact absurd h (by simp)
  case step =>
    intro i op b v ho hb hrest hdep
    have r0 : b.eval (.tmp 0) = .int .i64 n := hrest 0 (Rg.free_spec (by kernel_rfl))
    have r1 : b.eval (.tmp 1) = .int .i64 p := hrest 1 (Rg.free_spec (by kernel_rfl))
    have r5 : b.eval (.tmp 5) = .int .u8 0 := hrest 5 (Rg.free_spec (by kernel_rfl))
    have hv5 : (.int .u8 0 : Value) = .int .u8 ((pwv n p).toNat : Int) := by rw [H.out]; rfl
    have r5 := r5.trans hv5
    have hi := (Array.getElem?_eq_some_iff.1 ho).1
    match i, hi with
    | 0, _ =>
      obtain rfl := Option.some.inj ho
      have d1 : b.eval (.tmp 0) = .int .i64 n := r0
      exact Rg.does_move rfl d1
    | 1, _ =>
      obtain rfl := Option.some.inj ho
      have d1 : b.eval (.tmp 1) = .int .i64 p := r1
      exact Rg.does_move rfl d1
    | 2, _ =>
      obtain rfl := Option.some.inj ho
      have d1 : (b.eval (.tmp 22)) = .int .i64 n := hdep ⟨0, .data⟩ (by simp) rfl _ _ rfl rfl
      have d2 : (b.eval (.tmp 23)) = .int .i64 p := hdep ⟨1, .data⟩ (by simp) rfl _ _ rfl rfl
      exact Rg.does_fn rfl (enters_of Try.func7 (by kernel_rfl) rfl) (args := #[b.eval (.tmp 22), b.eval (.tmp 23)]) (by simp) (by rw [d1, d2]; exact (cpower_any n p v).mono fun e v' ⟨h1, h2⟩ => ⟨_, h1, rfl, by rw [h2]; exact Below.refl _ _⟩)
    | 3, _ =>
      obtain rfl := Option.some.inj ho
      have d1 : b.eval (.tmp 5) = .int .u8 ((pwv n p).toNat : Int) := r5
      exact Rg.does_move rfl d1
    | 4, _ =>
      obtain rfl := Option.some.inj ho
      have d1 : (b.eval (.tmp 24)) = .int .u8 ((pwv n p).toNat : Int) := hdep ⟨2, .data⟩ (by simp) rfl _ _ rfl rfl
      have d2 : (b.eval (.tmp 25)) = .int .u8 ((pwv n p).toNat : Int) := hdep ⟨3, .data⟩ (by simp) rfl _ _ rfl rfl
      have f1 : b.tmps[24]?.getD undef = _ := (show _ = b.eval (.tmp 24) by simp [Act.eval]).trans d1
      have f2 : b.tmps[25]?.getD undef = _ := (show _ = b.eval (.tmp 25) by simp [Act.eval]).trans d2
      refine Rg.does_pure (.bool true) ?_ rfl
      simp only [execOp]
      go_simp
    | 5, _ =>
      obtain rfl := Option.some.inj ho
      have d1 : (b.eval (.tmp 26)) = .bool true := hdep ⟨4, .data⟩ (by simp) rfl _ _ rfl rfl
      exact Rg.does_move rfl d1
    | 6, _ =>
      obtain rfl := Option.some.inj ho
      exact Rg.does_fn rfl (enters_of Try.func8 (by kernel_rfl) rfl) (args := #[]) (by simp) (cgen_any v)
    | 7, _ =>
      obtain rfl := Option.some.inj ho
      have d1 : RowV (genL 32) (b.eval (.tmp 28)) v := hdep ⟨6, .data⟩ (by simp) rfl _ _ rfl rfl
      exact Rg.does_conv rfl (conv_rv d1) (rfl)
    | 8, _ =>
      obtain rfl := Option.some.inj ho
      exact Rg.does_fn rfl (enters_of Try.func9 (by kernel_rfl) rfl) (args := #[]) (by simp) (rgen_any v)
    | 9, _ =>
      obtain rfl := Option.some.inj ho
      have d1 : RowV (genL 32) (b.eval (.tmp 30)) v := hdep ⟨8, .data⟩ (by simp) rfl _ _ rfl rfl
      exact Rg.does_conv rfl (conv_rv d1) (rfl)
    | 10, _ =>
      obtain rfl := Option.some.inj ho
      have d1 : (b.eval (.tmp 29)) = .string ⟨(genL 32).toArray⟩ := hdep ⟨7, .data⟩ (by simp) rfl _ _ rfl rfl
      have d2 : (b.eval (.tmp 31)) = .string ⟨(genL 32).toArray⟩ := hdep ⟨9, .data⟩ (by simp) rfl _ _ rfl rfl
      have f1 : b.tmps[29]?.getD undef = _ := (show _ = b.eval (.tmp 29) by simp [Act.eval]).trans d1
      have f2 : b.tmps[31]?.getD undef = _ := (show _ = b.eval (.tmp 31) by simp [Act.eval]).trans d2
      refine Rg.does_pure (.bool true) ?_ rfl
      have hu := Try.underlying9
      simp only [execOp]
      go_simp
    | 11, _ =>
      obtain rfl := Option.some.inj ho
      have d1 : (b.eval (.tmp 27)) = .bool true := hdep ⟨5, .data⟩ (by simp) rfl _ _ rfl rfl
      have d2 : (b.eval (.tmp 32)) = .bool true := hdep ⟨10, .data⟩ (by simp) rfl _ _ rfl rfl
      exact Rg.does_pick rfl d1 d2
    | 12, _ =>
      obtain rfl := Option.some.inj ho
      have d1 : (b.eval (.tmp 33)) = .bool true := hdep ⟨11, .data⟩ (by simp) rfl _ _ rfl rfl
      exact Rg.does_assign rfl d1
    | n + 13, h => exact absurd h (by simp)
  case fin =>
    intro b v2 hb2 hs hd hrest hall
    have h4 : b.tmps.getD 4 undef = .bool true := hall 12 _ 4 rfl rfl
    have HB := Lib.hid (Kit.step HG1.out hb2)
    go_wp2
    refine bodyPost_ret (results_tmp rfl _ _ _) hd ?_
    exact ⟨by rw [h4], HB.out⟩
theorem cpl_walk (n p : Int) (w : World) (hn1 : -9223372036854775808 ≤ n) (hn2 : n ≤ 9223372036854775807) (hp1 : -9223372036854775808 ≤ p) (hp2 : p ≤ 9223372036854775807) :
    Calls Try.prog 3 #[.int .i64 n, .int .i64 p] w fun e w' => e = .returned (.bool true) ∧ Below w.heap.size w w' := by
  by_cases h1 : 33 ≤ n ∧ n ≤ 255
  · by_cases h2 : 0 ≤ p
    · by_cases h3 : p < n
      · exact cpl_in n p w ⟨h1.1, h1.2, h2, h3⟩ hn1 hn2 hp1 hp2
      · exact cpl_far n p w ⟨h1, h2, h3⟩ hn1 hn2 hp1 hp2
    · exact cpl_neg n p w ⟨h1, h2⟩ hn1 hn2 hp1 hp2
  · exact cpl_size n p w h1 hn1 hn2 hp1 hp2
end Go.Proofs.Ytkkmgjjafbjnjaa
