/- The walk of StripeBlocks. -/
import Derived.Test.YtgifbpjmblemhaaDoorRbk
import Derived.Test.YtgifbpjmblemhaaDoorSsy
namespace Go.Proofs.YtgifbpjmblemhaaDoor
open Go.RowKit
set_option linter.unusedVariables false
set_option linter.unusedSimpArgs false
/-- what each operation of the region has as its result -/
def SblG (f p : List UInt8) (q : Int) (E : Value) (B N : Nat) (o4 o6 : Option Addr) (c4 c6 : Nat) (i : Nat) (x : Value) (v : World) : Prop :=
  match i with
  | 0 | 10 => (x) = E
  | 1 | 2 | 11 | 12 => (x) = .int .i64 q
  | 5 => (x) = .slice o4 N c4
  | 6 | 17 => (x) = .slice o6 N c6
  | 16 | 18 => (x) = .int .i64 (N : Int)
  | 22 | 31 => (x) = .slice (some ⟨B, 0, none⟩) f.length (f.length + 6)
  | 23 | 26 => RowV (p) (x) v
  | 24 | 27 => (x) = .string ⟨(p).toArray⟩
  | 25 | 32 => RowV (f) (x) v
  | _ => (x) = .bool true
theorem SblG.later {f p : List UInt8} {q : Int} {E : Value} {B N : Nat} {o4 o6 : Option Addr} {c4 c6 : Nat} (i : Nat) (x : Value) (v v' : World) (h : SblG f p q E B N o4 o6 c4 c6 i x v) (hb : Below v.heap.size v v') : SblG f p q E B N o4 o6 c4 c6 i x v' := by
  unfold SblG at *
  split at h <;> first | exact h | exact h.later hb
theorem call_val {P : Program} {f : FuncId} {args : Array Value} {v : World} {x : Value} (h : Calls P f args v fun e w' => e = .returned x ∧ Below v.heap.size v w') : Calls P f args v fun e v' => ∃ y, e = .returned y ∧ y = x ∧ Below v.heap.size v v' :=
  h.mono fun e v' ⟨h1, h2⟩ => ⟨x, h1, rfl, h2⟩
theorem rpad_rv {f p : List UInt8} {x : Value} {v : World} (hpf : padL f = p) (hf : RowV f x v) (hl : f.length ≤ 100000) : Calls Tryd.prog 15 #[x] v (Rows p v) := by
  obtain ⟨o, c, rfl, hr⟩ := hf
  subst hpf
  exact rpad_any f o c v hr hl
theorem kept_rv {f : List UInt8} {B : Nat} {x : Value} {v : World} (hM : MarkedAt v B f) (hf : RowV f x v) (hl : f.length ≤ 100000) : Calls Tryd.prog 16 #[.slice (some ⟨B, 0, none⟩) f.length (f.length + 6), x] v fun e v' => ∃ y, e = .returned y ∧ y = .bool true ∧ Below v.heap.size v v' := by
  obtain ⟨o, c, rfl, hr⟩ := hf
  exact call_val ((kept_any f B o c v hM hr (by omega)).mono fun e v' h => ⟨h.1, h.2.below⟩)
theorem rblocks_bad (m c : Nat) (o : Option Addr) (w : World) (h : 2000 < m) (hm : m ≤ 9223372036854775807) :
    Calls Tryd.prog 10 #[.slice o m c] w fun e w' => e = .returned (.tuple #[.slice none 0 0, .int .i64 8]) ∧ w' = w := by
  have HS := Lib.hid (rshape_bad (m : Int) w (by omega))
  clear h
  go_enter Tryd.func10, Tryd.ntmps10
  go_wp2_with fail
  refine HS.out.mono ?_; rintro e w1 ⟨rfl, rfl⟩
  go_wp2_with fail
  go_ret2
  exact ⟨rfl, rfl⟩
theorem sbl_long (m c : Nat) (o : Option Addr) (w : World) (h : 2200 < m) (hm : m ≤ 9223372036854775807) :
    Calls Tryd.prog 3 #[.slice o m c] w fun e w' => e = .returned (.bool true) ∧ Below w.heap.size w w' := by
  have hd1 : decide ((2200 : Int) < (m : Int)) = true := decide_eq_true (by omega)
  clear h
  go_enter Tryd.func3, Tryd.ntmps3
  go_wp2_with fail
  refine (alive6_any _).mono ?_; rintro e w1 ⟨rfl, hb⟩
  have HB := Lib.hid hb
  clear hb
  go_wp2_with fail
  go_ret
  exact ⟨rfl, HB.out⟩
set_option maxRecDepth 100000 in
set_option maxHeartbeats 8000000 in
theorem sbl_of (f p : List UInt8) (bs : List (List UInt8)) (q : Int) (E : Value) (N : Nat) (o : Option Addr) (c : Nat) (w : World) (A : Nat → Addr) (hE : Er.Errs w A) (hR : RowIs w o (bytesV f) c) (hl : f.length ≤ 2200) (hpf : padL f = p) (hbn : bs.length = N)
    (hnu : ∀ v, Er.Errs v A → Calls Tryd.prog 12 #[E] v fun e w' => e = .returned (.int .i64 q) ∧ Below v.heap.size v w')
    (hcb : ∀ v o c, RowIs v o (bytesV f) c → Er.Errs v A → Calls Tryd.prog 9 #[.slice o f.length c] v fun e w' => ∃ x, e = .returned (.tuple #[x, E]) ∧ RbV bs x w' ∧ Below v.heap.size v w')
    (hrb : ∀ v o c, RowIs v o (bytesV f) c → Calls Tryd.prog 10 #[.slice o f.length c] v fun e w' => ∃ x, e = .returned (.tuple #[x, .int .i64 q]) ∧ RbV bs x w' ∧ Below v.heap.size v w')
    (hto : ∀ v, Er.Errs v A → Calls Tryd.prog 11 #[.int .i64 (f.length : Int)] v fun e w' => e = .returned (.tuple #[.int .i64 (N : Int), E]) ∧ Below v.heap.size v w') :
    Calls Tryd.prog 3 #[.slice o f.length c] w fun e w' => e = .returned (.bool true) ∧ Below w.heap.size w w' := by
  have hd1 : decide ((2200 : Int) < (f.length : Int)) = false := decide_eq_false (by omega)
  have h1 := hR.le
  have h2 := hR.cap
  simp only [bytesV_length] at h1
  unfold maxLen at h2
  have HR := Lib.hid hR
  have HE := Lib.hid hE
  have HPF := Lib.hid hpf
  have HBN := Lib.hid hbn
  have HNU := Lib.hid hnu
  have HCB := Lib.hid hcb
  have HRB := Lib.hid hrb
  have HTO := Lib.hid hto
  clear hR hE hpf hbn hnu hcb hrb hto
  go_enter Tryd.func3, Tryd.ntmps3
  go_wp2_with fail
  refine (alive6_any _).mono ?_; rintro e w1 ⟨rfl, hb⟩
  have HB1 := Lib.hid hb
  have HBY := Lib.hid (bytes_any f o c w1 (HR.out.later hb) (by omega))
  clear hb
  go_wp2_with fail
  refine HBY.out.mono ?_; rintro e w2 ⟨B, rfl, hb, _, hM⟩
  have HB2 := Lib.hid (Kit.step HB1.out hb)
  have HM2 := Lib.hid hM
  clear hb hM HBY
  go_wp2_with fail
  refine (HCB.out w2 (some ⟨B, 0, none⟩) (f.length + 6) (HM2.out.row (by unfold maxLen; omega)) (HE.out.later HB2.out)).mono ?_; rintro e w3 ⟨x4, rfl, ⟨o4, c4, rfl, hx4⟩, hb⟩
  have HB3 := Lib.hid (Kit.step HB2.out hb)
  have HM3 := Lib.hid (HM2.out.later hb)
  have HX3 := Lib.hid hx4
  clear hb hx4 HM2
  go_wp2_with fail
  refine (HRB.out w3 o c (HR.out.later HB3.out)).mono ?_; rintro e w4 ⟨x6, rfl, ⟨o6, c6, rfl, hx6⟩, hb⟩
  have HB4' := Lib.hid (Kit.step HB3.out hb)
  have HM4 := Lib.hid (HM3.out.later hb)
  have HX4 := Lib.hid (HX3.out.later hb)
  have HY4 := Lib.hid hx6
  rw [HBN.out]
  clear hb hx6 HX3 HM3
  go_wp2_with fail
  refine (HTO.out w4 (HE.out.later HB4'.out)).mono ?_; rintro e w5 ⟨rfl, hb⟩
  have HBE := Lib.hid (Kit.step HB4'.out hb)
  have HMK := Lib.hid (HM4.out.later hb)
  have HB4 := Lib.hid (HX4.out.later hb)
  have HB6 := Lib.hid (HY4.out.later hb)
  have HER := Lib.hid (HE.out.later HBE.out)
  have hf : RowV f (.slice o f.length c) w5 := ⟨_, _, rfl, HR.out.later HBE.out⟩
  clear hb HM4 HX4 HY4
  go_wp2_with fail
  refine Rg.region_grow (by kernel_rfl) (SblG f p q E B N o4 o6 c4 c6) (by kernel_rfl) SblG.later ?gd ?step ?fin
  case gd =>
    intro i op k t ho hg x v hG
    have hi := (Array.getElem?_eq_some_iff.1 ho).1
    match i, hi with
    | 0, _ =>
      obtain rfl := Option.some.inj ho
      cases hg
    | 1, _ =>
      obtain rfl := Option.some.inj ho
      cases hg
    | 2, _ =>
      obtain rfl := Option.some.inj ho
      cases hg
    | 3, _ =>
      obtain rfl := Option.some.inj ho
      cases hg
    | 4, _ =>
      obtain rfl := Option.some.inj ho
      cases hg
    | 5, _ =>
      obtain rfl := Option.some.inj ho
      obtain ⟨rfl, rfl⟩ : 4 = k ∧ true = t := by simpa using hg
      exact hG
    | 6, _ =>
      obtain rfl := Option.some.inj ho
      obtain ⟨rfl, rfl⟩ : 4 = k ∧ true = t := by simpa using hg
      exact hG
    | 7, _ =>
      obtain rfl := Option.some.inj ho
      obtain ⟨rfl, rfl⟩ : 4 = k ∧ true = t := by simpa using hg
      exact hG
    | 8, _ =>
      obtain rfl := Option.some.inj ho
      cases hg
    | 9, _ =>
      obtain rfl := Option.some.inj ho
      cases hg
    | 10, _ =>
      obtain rfl := Option.some.inj ho
      obtain ⟨rfl, rfl⟩ : 9 = k ∧ true = t := by simpa using hg
      exact hG
    | 11, _ =>
      obtain rfl := Option.some.inj ho
      obtain ⟨rfl, rfl⟩ : 9 = k ∧ true = t := by simpa using hg
      exact hG
    | 12, _ =>
      obtain rfl := Option.some.inj ho
      obtain ⟨rfl, rfl⟩ : 9 = k ∧ true = t := by simpa using hg
      exact hG
    | 13, _ =>
      obtain rfl := Option.some.inj ho
      obtain ⟨rfl, rfl⟩ : 9 = k ∧ true = t := by simpa using hg
      exact hG
    | 14, _ =>
      obtain rfl := Option.some.inj ho
      cases hg
    | 15, _ =>
      obtain rfl := Option.some.inj ho
      cases hg
    | 16, _ =>
      obtain rfl := Option.some.inj ho
      obtain ⟨rfl, rfl⟩ : 15 = k ∧ true = t := by simpa using hg
      exact hG
    | 17, _ =>
      obtain rfl := Option.some.inj ho
      obtain ⟨rfl, rfl⟩ : 15 = k ∧ true = t := by simpa using hg
      exact hG
    | 18, _ =>
      obtain rfl := Option.some.inj ho
      obtain ⟨rfl, rfl⟩ : 15 = k ∧ true = t := by simpa using hg
      exact hG
    | 19, _ =>
      obtain rfl := Option.some.inj ho
      obtain ⟨rfl, rfl⟩ : 15 = k ∧ true = t := by simpa using hg
      exact hG
    | 20, _ =>
      obtain rfl := Option.some.inj ho
      cases hg
    | 21, _ =>
      obtain rfl := Option.some.inj ho
      cases hg
    | 22, _ =>
      obtain rfl := Option.some.inj ho
      obtain ⟨rfl, rfl⟩ : 21 = k ∧ true = t := by simpa using hg
      exact hG
    | 23, _ =>
      obtain rfl := Option.some.inj ho
      obtain ⟨rfl, rfl⟩ : 21 = k ∧ true = t := by simpa using hg
      exact hG
    | 24, _ =>
      obtain rfl := Option.some.inj ho
      obtain ⟨rfl, rfl⟩ : 21 = k ∧ true = t := by simpa using hg
      exact hG
    | 25, _ =>
      obtain rfl := Option.some.inj ho
      obtain ⟨rfl, rfl⟩ : 21 = k ∧ true = t := by simpa using hg
      exact hG
    | 26, _ =>
      obtain rfl := Option.some.inj ho
      obtain ⟨rfl, rfl⟩ : 21 = k ∧ true = t := by simpa using hg
      exact hG
    | 27, _ =>
      obtain rfl := Option.some.inj ho
      obtain ⟨rfl, rfl⟩ : 21 = k ∧ true = t := by simpa using hg
      exact hG
    | 28, _ =>
      obtain rfl := Option.some.inj ho
      obtain ⟨rfl, rfl⟩ : 21 = k ∧ true = t := by simpa using hg
      exact hG
    | 29, _ =>
      obtain rfl := Option.some.inj ho
      cases hg
    | 30, _ =>
      obtain rfl := Option.some.inj ho
      cases hg
    | 31, _ =>
      obtain rfl := Option.some.inj ho
      obtain ⟨rfl, rfl⟩ : 30 = k ∧ true = t := by simpa using hg
      exact hG
    | 32, _ =>
      obtain rfl := Option.some.inj ho
      obtain ⟨rfl, rfl⟩ : 30 = k ∧ true = t := by simpa using hg
      exact hG
    | 33, _ =>
      obtain rfl := Option.some.inj ho
      obtain ⟨rfl, rfl⟩ : 30 = k ∧ true = t := by simpa using hg
      exact hG
    | 34, _ =>
      obtain rfl := Option.some.inj ho
      cases hg
    | 35, _ =>
      obtain rfl := Option.some.inj ho
      cases hg
    | n + 36, h => exact absurd h (by simp)
  case step =>
    intro i op b v ho hb hrest hdep
    have r5 : b.eval (.tmp 5) = E := hrest 5 (Rg.free_spec (by kernel_rfl))
    have r7 : b.eval (.tmp 7) = .int .i64 q := hrest 7 (Rg.free_spec (by kernel_rfl))
    have r4 : b.eval (.tmp 4) = .slice o4 N c4 := hrest 4 (Rg.free_spec (by kernel_rfl))
    have r6 : b.eval (.tmp 6) = .slice o6 N c6 := hrest 6 (Rg.free_spec (by kernel_rfl))
    have r9 : b.eval (.tmp 9) = E := hrest 9 (Rg.free_spec (by kernel_rfl))
    have r8 : b.eval (.tmp 8) = .int .i64 (N : Int) := hrest 8 (Rg.free_spec (by kernel_rfl))
    have r3 : b.eval (.tmp 3) = .slice (some ⟨B, 0, none⟩) f.length (f.length + 6) := hrest 3 (Rg.free_spec (by kernel_rfl))
    have r0 : b.eval (.tmp 0) = .slice o f.length c := hrest 0 (Rg.free_spec (by kernel_rfl))
    have hi := (Array.getElem?_eq_some_iff.1 ho).1
    match i, hi with
    | 0, _ =>
      obtain rfl := Option.some.inj ho
      have d1 : b.eval (.tmp 5) = E := r5
      exact Rg.does_move rfl d1
    | 1, _ =>
      obtain rfl := Option.some.inj ho
      have d1 : (b.eval (.tmp 33)) = E := hdep ⟨0, .data⟩ (by simp) rfl _ _ rfl rfl
      exact Rg.does_fn rfl (enters_of Tryd.func12 (by kernel_rfl) rfl) (args := #[b.eval (.tmp 33)]) (by simp) (by rw [d1]; exact call_val (HNU.out v (HER.out.later hb)))
    | 2, _ =>
      obtain rfl := Option.some.inj ho
      have d1 : b.eval (.tmp 7) = .int .i64 q := r7
      exact Rg.does_move rfl d1
    | 3, _ =>
      obtain rfl := Option.some.inj ho
      have d1 : (b.eval (.tmp 34)) = .int .i64 q := hdep ⟨1, .data⟩ (by simp) rfl _ _ rfl rfl
      have d2 : (b.eval (.tmp 35)) = .int .i64 q := hdep ⟨2, .data⟩ (by simp) rfl _ _ rfl rfl
      have f1 : b.tmps[34]?.getD undef = _ := (show _ = b.eval (.tmp 34) by simp [Act.eval]).trans d1
      have f2 : b.tmps[35]?.getD undef = _ := (show _ = b.eval (.tmp 35) by simp [Act.eval]).trans d2
      refine Rg.does_pure (.bool true) ?_ rfl
      simp only [execOp]
      go_simp
    | 4, _ =>
      obtain rfl := Option.some.inj ho
      have d1 : (b.eval (.tmp 36)) = .bool true := hdep ⟨3, .data⟩ (by simp) rfl _ _ rfl rfl
      exact Rg.does_move rfl d1
    | 5, _ =>
      obtain rfl := Option.some.inj ho
      have d1 : b.eval (.tmp 4) = .slice o4 N c4 := r4
      exact Rg.does_move rfl d1
    | 6, _ =>
      obtain rfl := Option.some.inj ho
      have d1 : b.eval (.tmp 6) = .slice o6 N c6 := r6
      exact Rg.does_move rfl d1
    | 7, _ =>
      obtain rfl := Option.some.inj ho
      have d1 : (b.eval (.tmp 38)) = .slice o4 N c4 := hdep ⟨5, .data⟩ (by simp) rfl _ _ rfl rfl
      have d2 : (b.eval (.tmp 39)) = .slice o6 N c6 := hdep ⟨6, .data⟩ (by simp) rfl _ _ rfl rfl
      exact Rg.does_fn rfl (enters_of Tryd.func13 (by kernel_rfl) rfl) (args := #[b.eval (.tmp 38), b.eval (.tmp 39)]) (by simp) (by rw [d1, d2]; exact call_val ((same_lists bs o4 o6 N c4 c6 v (HB4.out.later hb) (HB6.out.later hb) HBN.out).mono fun e v' h => ⟨h.1, h.2.below⟩))
    | 8, _ =>
      obtain rfl := Option.some.inj ho
      have d1 : (b.eval (.tmp 37)) = .bool true := hdep ⟨4, .data⟩ (by simp) rfl _ _ rfl rfl
      have d2 : (b.eval (.tmp 40)) = .bool true := hdep ⟨7, .data⟩ (by simp) rfl _ _ rfl rfl
      exact Rg.does_pick rfl d1 d2
    | 9, _ =>
      obtain rfl := Option.some.inj ho
      have d1 : (b.eval (.tmp 41)) = .bool true := hdep ⟨8, .data⟩ (by simp) rfl _ _ rfl rfl
      exact Rg.does_move rfl d1
    | 10, _ =>
      obtain rfl := Option.some.inj ho
      have d1 : b.eval (.tmp 9) = E := r9
      exact Rg.does_move rfl d1
    | 11, _ =>
      obtain rfl := Option.some.inj ho
      have d1 : (b.eval (.tmp 43)) = E := hdep ⟨10, .data⟩ (by simp) rfl _ _ rfl rfl
      exact Rg.does_fn rfl (enters_of Tryd.func12 (by kernel_rfl) rfl) (args := #[b.eval (.tmp 43)]) (by simp) (by rw [d1]; exact call_val (HNU.out v (HER.out.later hb)))
    | 12, _ =>
      obtain rfl := Option.some.inj ho
      have d1 : b.eval (.tmp 7) = .int .i64 q := r7
      exact Rg.does_move rfl d1
    | 13, _ =>
      obtain rfl := Option.some.inj ho
      have d1 : (b.eval (.tmp 44)) = .int .i64 q := hdep ⟨11, .data⟩ (by simp) rfl _ _ rfl rfl
      have d2 : (b.eval (.tmp 45)) = .int .i64 q := hdep ⟨12, .data⟩ (by simp) rfl _ _ rfl rfl
      have f1 : b.tmps[44]?.getD undef = _ := (show _ = b.eval (.tmp 44) by simp [Act.eval]).trans d1
      have f2 : b.tmps[45]?.getD undef = _ := (show _ = b.eval (.tmp 45) by simp [Act.eval]).trans d2
      refine Rg.does_pure (.bool true) ?_ rfl
      simp only [execOp]
      go_simp
    | 14, _ =>
      obtain rfl := Option.some.inj ho
      have d1 : (b.eval (.tmp 42)) = .bool true := hdep ⟨9, .data⟩ (by simp) rfl _ _ rfl rfl
      have d2 : (b.eval (.tmp 46)) = .bool true := hdep ⟨13, .data⟩ (by simp) rfl _ _ rfl rfl
      exact Rg.does_pick rfl d1 d2
    | 15, _ =>
      obtain rfl := Option.some.inj ho
      have d1 : (b.eval (.tmp 47)) = .bool true := hdep ⟨14, .data⟩ (by simp) rfl _ _ rfl rfl
      exact Rg.does_move rfl d1
    | 16, _ =>
      obtain rfl := Option.some.inj ho
      have d1 : b.eval (.tmp 8) = .int .i64 (N : Int) := r8
      exact Rg.does_move rfl d1
    | 17, _ =>
      obtain rfl := Option.some.inj ho
      have d1 : b.eval (.tmp 6) = .slice o6 N c6 := r6
      exact Rg.does_move rfl d1
    | 18, _ =>
      obtain rfl := Option.some.inj ho
      have d1 : (b.eval (.tmp 50)) = .slice o6 N c6 := hdep ⟨17, .data⟩ (by simp) rfl _ _ rfl rfl
      have f1 : b.tmps[50]?.getD undef = _ := (show _ = b.eval (.tmp 50) by simp [Act.eval]).trans d1
      refine Rg.does_pure (.int .i64 (N : Int)) ?_ rfl
      simp only [execOp]
      go_simp
    | 19, _ =>
      obtain rfl := Option.some.inj ho
      have d1 : (b.eval (.tmp 49)) = .int .i64 (N : Int) := hdep ⟨16, .data⟩ (by simp) rfl _ _ rfl rfl
      have d2 : (b.eval (.tmp 51)) = .int .i64 (N : Int) := hdep ⟨18, .data⟩ (by simp) rfl _ _ rfl rfl
      have f1 : b.tmps[49]?.getD undef = _ := (show _ = b.eval (.tmp 49) by simp [Act.eval]).trans d1
      have f2 : b.tmps[51]?.getD undef = _ := (show _ = b.eval (.tmp 51) by simp [Act.eval]).trans d2
      refine Rg.does_pure (.bool true) ?_ rfl
      simp only [execOp]
      go_simp
    | 20, _ =>
      obtain rfl := Option.some.inj ho
      have d1 : (b.eval (.tmp 48)) = .bool true := hdep ⟨15, .data⟩ (by simp) rfl _ _ rfl rfl
      have d2 : (b.eval (.tmp 52)) = .bool true := hdep ⟨19, .data⟩ (by simp) rfl _ _ rfl rfl
      exact Rg.does_pick rfl d1 d2
    | 21, _ =>
      obtain rfl := Option.some.inj ho
      have d1 : (b.eval (.tmp 53)) = .bool true := hdep ⟨20, .data⟩ (by simp) rfl _ _ rfl rfl
      exact Rg.does_move rfl d1
    | 22, _ =>
      obtain rfl := Option.some.inj ho
      have d1 : b.eval (.tmp 3) = .slice (some ⟨B, 0, none⟩) f.length (f.length + 6) := r3
      exact Rg.does_move rfl d1
    | 23, _ =>
      obtain rfl := Option.some.inj ho
      have d1 : (b.eval (.tmp 55)) = .slice (some ⟨B, 0, none⟩) f.length (f.length + 6) := hdep ⟨22, .data⟩ (by simp) rfl _ _ rfl rfl
      exact Rg.does_fn rfl (enters_of Tryd.func14 (by kernel_rfl) rfl) (args := #[b.eval (.tmp 55)]) (by simp) (by rw [d1]; exact pad_rv HPF.out ⟨_, _, rfl, (HMK.out.later hb).row (by unfold maxLen; omega)⟩ (by omega))
    | 24, _ =>
      obtain rfl := Option.some.inj ho
      have d1 : RowV (p) (b.eval (.tmp 56)) v := hdep ⟨23, .data⟩ (by simp) rfl _ _ rfl rfl
      exact Rg.does_conv rfl (conv_rv d1) (rfl)
    | 25, _ =>
      obtain rfl := Option.some.inj ho
      have d1 : RowV (f) (b.eval (.tmp 0)) v := by rw [r0]; exact hf.later hb
      exact Rg.does_move rfl d1
    | 26, _ =>
      obtain rfl := Option.some.inj ho
      have d1 : RowV (f) (b.eval (.tmp 58)) v := hdep ⟨25, .data⟩ (by simp) rfl _ _ rfl rfl
      exact Rg.does_fn rfl (enters_of Tryd.func15 (by kernel_rfl) rfl) (args := #[b.eval (.tmp 58)]) (by simp) (rpad_rv HPF.out d1 (by omega))
    | 27, _ =>
      obtain rfl := Option.some.inj ho
      have d1 : RowV (p) (b.eval (.tmp 59)) v := hdep ⟨26, .data⟩ (by simp) rfl _ _ rfl rfl
      exact Rg.does_conv rfl (conv_rv d1) (rfl)
    | 28, _ =>
      obtain rfl := Option.some.inj ho
      have d1 : (b.eval (.tmp 57)) = .string ⟨(p).toArray⟩ := hdep ⟨24, .data⟩ (by simp) rfl _ _ rfl rfl
      have d2 : (b.eval (.tmp 60)) = .string ⟨(p).toArray⟩ := hdep ⟨27, .data⟩ (by simp) rfl _ _ rfl rfl
      have f1 : b.tmps[57]?.getD undef = _ := (show _ = b.eval (.tmp 57) by simp [Act.eval]).trans d1
      have f2 : b.tmps[60]?.getD undef = _ := (show _ = b.eval (.tmp 60) by simp [Act.eval]).trans d2
      refine Rg.does_pure (.bool true) ?_ rfl
      have hu := Tryd.underlying9
      simp only [execOp]
      go_simp
    | 29, _ =>
      obtain rfl := Option.some.inj ho
      have d1 : (b.eval (.tmp 54)) = .bool true := hdep ⟨21, .data⟩ (by simp) rfl _ _ rfl rfl
      have d2 : (b.eval (.tmp 61)) = .bool true := hdep ⟨28, .data⟩ (by simp) rfl _ _ rfl rfl
      exact Rg.does_pick rfl d1 d2
    | 30, _ =>
      obtain rfl := Option.some.inj ho
      have d1 : (b.eval (.tmp 62)) = .bool true := hdep ⟨29, .data⟩ (by simp) rfl _ _ rfl rfl
      exact Rg.does_move rfl d1
    | 31, _ =>
      obtain rfl := Option.some.inj ho
      have d1 : b.eval (.tmp 3) = .slice (some ⟨B, 0, none⟩) f.length (f.length + 6) := r3
      exact Rg.does_move rfl d1
    | 32, _ =>
      obtain rfl := Option.some.inj ho
      have d1 : RowV (f) (b.eval (.tmp 0)) v := by rw [r0]; exact hf.later hb
      exact Rg.does_move rfl d1
    | 33, _ =>
      obtain rfl := Option.some.inj ho
      have d1 : (b.eval (.tmp 64)) = .slice (some ⟨B, 0, none⟩) f.length (f.length + 6) := hdep ⟨31, .data⟩ (by simp) rfl _ _ rfl rfl
      have d2 : RowV (f) (b.eval (.tmp 65)) v := hdep ⟨32, .data⟩ (by simp) rfl _ _ rfl rfl
      exact Rg.does_fn rfl (enters_of Tryd.func16 (by kernel_rfl) rfl) (args := #[b.eval (.tmp 64), b.eval (.tmp 65)]) (by simp) (by rw [d1]; exact kept_rv (HMK.out.later hb) d2 (by omega))
    | 34, _ =>
      obtain rfl := Option.some.inj ho
      have d1 : (b.eval (.tmp 63)) = .bool true := hdep ⟨30, .data⟩ (by simp) rfl _ _ rfl rfl
      have d2 : (b.eval (.tmp 66)) = .bool true := hdep ⟨33, .data⟩ (by simp) rfl _ _ rfl rfl
      exact Rg.does_pick rfl d1 d2
    | 35, _ =>
      obtain rfl := Option.some.inj ho
      have d1 : (b.eval (.tmp 67)) = .bool true := hdep ⟨34, .data⟩ (by simp) rfl _ _ rfl rfl
      exact Rg.does_assign rfl d1
    | n + 36, h => exact absurd h (by simp)
  case fin =>
    intro b v2 hb2 hs hd hrest hall
    have h4 : b.tmps.getD 2 undef = .bool true := hall 35 _ 2 rfl rfl
    have HB := Lib.hid (Kit.step HBE.out hb2)
    go_wp2
    refine bodyPost_ret (results_tmp rfl _ _ _) hd ?_
    exact ⟨by rw [h4], HB.out⟩
theorem rb_none (v : World) : RbV [] (.slice none 0 0) v := ⟨none, 0, rfl, RbIs.empty none 0 (Nat.zero_le _) (fun _ => rfl)⟩
theorem sbl_walk (f : List UInt8) (o : Option Addr) (c : Nat) (w : World) (A : Nat → Addr) (hE : Er.Errs w A) (hR : RowIs w o (bytesV f) c) :
    Calls Tryd.prog 3 #[.slice o f.length c] w fun e w' => e = .returned (.bool true) ∧ Below w.heap.size w w' := by
  have h1 := hR.le
  have h2 := hR.cap
  simp only [bytesV_length] at h1
  unfold maxLen at h2
  by_cases h22 : 2200 < f.length
  · exact sbl_long f.length c o w h22 (by omega)
  · by_cases h20 : 2000 < f.length
    · refine sbl_of f _ [] 8 (.iface 160 (.pointer (some (A 7)))) 0 o c w A hE hR (by omega) rfl rfl (fun v hv => Er.num_of A 7 (by omega) v hv) (fun v o c hr hv => ?_) (fun v o c hr => ?_) (fun v hv => ?_)
      · exact (cblocks_bad f.length c o v _ _ h20 (by omega) hv.c7).mono fun e v' ⟨h1, h2⟩ => ⟨_, h1, rb_none _, h2⟩
      · exact (rblocks_bad f.length c o v h20 (by omega)).mono fun e v' ⟨h1, h2⟩ => ⟨_, h1, rb_none _, by rw [h2]; exact Below.refl _ _⟩
      · exact ctotal_bad f.length v _ _ (by omega) hv.c7
    · refine sbl_of f _ (allB f) 0 .nilIface (totN (nbk f.length)) o c w A hE hR (by omega) rfl (allB_length f) (fun v hv => (Er.num_nil v).mono fun e v' ⟨h1, h2⟩ => ⟨h1, by rw [h2]; exact Below.refl _ _⟩) (fun v o c hr hv => ?_) (fun v o c hr => ?_) (fun v hv => ?_)
      · exact cblocks_any f o c v hr (by omega)
      · exact rblocks_any f o c v hr (by omega) _ rfl
      · exact ctotal_any f.length v (by omega)
end Go.Proofs.YtgifbpjmblemhaaDoor
