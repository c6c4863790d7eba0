/- The walk of PolySums. -/
import Derived.Test.YtbmafnippbjpnaaVal
import Derived.Test.YtbmafnippbjpnaaSh
import Derived.Test.YtbmafnippbjpnaaBytes
namespace Go.Proofs.Ytbmafnippbjpnaa
open Go.RowKit
set_option linter.unusedVariables false
set_option linter.unusedSimpArgs false
theorem raddp_rv {p q : List UInt8} {x y : Value} {v : World} (hp : RowV p x v) (hq : RowV q y v) (hl1 : p.length ≤ 100000) (hl2 : q.length ≤ 100000) : Calls Try.prog 14 #[x, y] v (Rows (tr (addL p q)) v) := by
  obtain ⟨o, c, rfl, hp⟩ := hp
  obtain ⟨o2, c2, rfl, hq⟩ := hq
  exact raddp_any p q o o2 c c2 v hp hq hl1 hl2
/-- what each operation of the first long statement has as its result -/
def SumG (p q : List UInt8) (y : UInt8) (i : Nat) (x : Value) (v : World) : Prop :=
  match i with
  | 0 | 7 | 15 | 19 | 26 | 30 | 37 | 41 => RowV p x v
  | 16 | 20 | 27 | 31 => RowV q x v
  | 1 | 3 | 9 => RowV (tr p) x v
  | 2 | 4 => x = .string ⟨(tr p).toArray⟩
  | 8 | 11 => x = .int .i64 (((tr p).length : Int) - 1)
  | 10 => x = .int .i64 ((tr p).length : Int)
  | 17 | 21 => RowV (tr (addL p q)) x v
  | 18 | 22 => x = .string ⟨(tr (addL p q)).toArray⟩
  | 28 | 32 => RowV (tr (mulL p q)) x v
  | 29 | 33 => x = .string ⟨(tr (mulL p q)).toArray⟩
  | 38 | 42 => x = .int .u8 (y.toNat : Int)
  | 39 => RowV (tr (scaleL p y)) x v
  | 40 | 45 => x = .string ⟨(tr (mulL p [y])).toArray⟩
  | 43 => RowV [y] x v
  | 44 => RowV (tr (mulL p [y])) x v
  | _ => x = .bool false
theorem SumG.later {p q : List UInt8} {y : UInt8} (i : Nat) (x : Value) (v v' : World) (h : SumG p q y i x v) (hb : Below v.heap.size v v') : SumG p q y i x v' := by
  unfold SumG at *
  split at h <;> first | exact h.later hb | exact h
/-- what each operation of the last statement has as its result -/
def LstG (p q : List UInt8) (n : Int) (o o2 : Option Addr) (c c2 B1 B2 : Nat) (i : Nat) (x : Value) (v : World) : Prop :=
  match i with
  | 0 | 8 => RowV p x v
  | 1 | 9 => x = .int .i64 n
  | 2 | 4 => RowV (tr (shiftL p (shN n))) x v
  | 3 | 5 => x = .string ⟨(tr (shiftL p (shN n))).toArray⟩
  | 10 | 13 => RowV (tr (p.take (lowN n p.length))) x v
  | 11 | 14 => x = .string ⟨(tr (p.take (lowN n p.length))).toArray⟩
  | 12 => RowV (p.take (lowN n p.length)) x v
  | 18 => x = .slice (some ⟨B1, 0, none⟩) p.length (p.length + 6)
  | 19 => x = .slice o p.length c
  | 23 => x = .slice (some ⟨B2, 0, none⟩) q.length (q.length + 6)
  | 24 => x = .slice o2 q.length c2
  | _ => x = .bool true
theorem LstG.later {p q : List UInt8} {n : Int} {o o2 : Option Addr} {c c2 B1 B2 : Nat} (i : Nat) (x : Value) (v v' : World) (h : LstG p q n o o2 c c2 B1 B2 i x v) (hb : Below v.heap.size v v') : LstG p q n o o2 c c2 B1 B2 i x v' := by
  unfold LstG at *
  split at h <;> first | exact h.later hb | exact h
theorem lit_of (a : Array Value) (n : Nat) (h : a.size = n) : a = ((List.range n).map fun i => a.getD i undef).toArray := by
  subst h
  apply Array.ext
  · simp
  · intro i h1 h2
    simp [Array.getD_eq_getD_getElem?, h1]
set_option maxRecDepth 100000 in
set_option maxHeartbeats 4000000 in
theorem sum_short (p q : List UInt8) (n : Int) (o o2 : Option Addr) (c c2 : Nat) (w : World) (hP : RowIs w o (bytesV p) c) (hQ : RowIs w o2 (bytesV q) c2) (hl1 : p.length ≤ 60) (hl2 : q.length ≤ 60) :
    Calls Try.prog 3 #[.slice o p.length c, .slice o2 q.length c2, .int .i64 n] w fun e w' => e = .returned (.bool true) ∧ Below w.heap.size w w' := by
  have HP := Lib.hid hP
  have HQ := Lib.hid hQ
  clear hP hQ
  go_enter Try.func3, Try.ntmps3
  go_wp2_with fail
  refine (alive2_any _).mono ?_; rintro e w1 ⟨rfl, hg⟩
  have HG := Lib.hid hg
  clear hg
  go_wp2_with fail
  refine (bytes_any p o c _ (HP.out.later HG.out) (by omega)).mono ?_; rintro e w2 ⟨B1, rfl, hg, hB1, hM⟩
  have HG2 := Lib.hid (Kit.step HG.out hg)
  have HM2 := Lib.hid hM
  clear hg hB1 hM
  go_wp2_with fail
  refine (bytes_any q o2 c2 _ (HQ.out.later HG2.out) (by omega)).mono ?_; rintro e w3 ⟨B2, rfl, hg, hB2, hM⟩
  have HG3 := Lib.hid (Kit.step HG2.out hg)
  have HM3 := Lib.hid (HM2.out.later hg)
  have HN3 := Lib.hid hM
  clear hg hB2 hM
  go_wp2_with fail
  refine (rtrim_any p o c _ (HP.out.later HG3.out) (by omega)).mono ?_; rintro e w4 ⟨t9, rfl, hr, hg⟩
  have HG4 := Lib.hid (Kit.step HG3.out hg)
  have HM4 := Lib.hid (HM3.out.later hg)
  have HN4 := Lib.hid (HN3.out.later hg)
  have hT := hr
  have hA : RowV p (.slice (some ⟨B1, 0, none⟩) p.length (p.length + 6)) w4 := ⟨_, _, rfl, HM4.out.row (by unfold maxLen; omega)⟩
  have hB : RowV q (.slice (some ⟨B2, 0, none⟩) q.length (q.length + 6)) w4 := ⟨_, _, rfl, HN4.out.row (by unfold maxLen; omega)⟩
  have hp : RowV p (.slice o p.length c) w4 := ⟨_, _, rfl, HP.out.later HG4.out⟩
  have hq : RowV q (.slice o2 q.length c2) w4 := ⟨_, _, rfl, HQ.out.later HG4.out⟩
  obtain ⟨y, hy⟩ : ∃ y : UInt8, n % 256 = (y.toNat : Int) := ⟨UInt8.ofNat (n % 256).toNat, by rw [UInt8.toNat_ofNat']; omega⟩
  clear hr hg
  go_wp2_with fail
  refine Code.wp_mono (Q := fun e b v => e = .normal ∧ Below w4.heap.size w4 v ∧ ∃ f : Nat → Value, b = { tmps := #[.slice o p.length c, .slice o2 q.length c2, .int .i64 n, f 3, f 4, f 5, f 6, .slice (some ⟨B1, 0, none⟩) p.length (p.length + 6), .slice (some ⟨B2, 0, none⟩) q.length (q.length + 6), f 9, f 10, f 11, f 12, f 13, f 14, f 15, f 16, f 17, f 18, f 19, f 20, f 21, f 22, f 23, f 24, f 25, f 26, f 27, f 28, f 29, f 30, f 31, f 32, f 33, f 34, f 35, f 36, f 37, f 38, f 39, f 40, f 41, f 42, f 43, f 44, f 45, f 46, f 47, f 48, f 49, f 50, f 51, f 52, f 53, f 54, f 55, f 56, f 57, f 58, f 59, f 60, f 61, f 62, f 63, f 64, f 65, f 66, f 67, f 68, f 69, f 70, f 71, f 72, f 73, f 74, f 75, f 76, f 77, f 78, .bool false, f 80, f 81, f 82, f 83, f 84, f 85, f 86, f 87, f 88, f 89, f 90, f 91, f 92, f 93, f 94, f 95, f 96, f 97, f 98, f 99, f 100, f 101, f 102, f 103, f 104, f 105, f 106, f 107, f 108, f 109, f 110, f 111, f 112, f 113, f 114, f 115, f 116, f 117, f 118, f 119, f 120, f 121, f 122, f 123, f 124], defers := [] }) ?rest ?reg
  case reg =>
    refine Rg.region_grow (by kernel_rfl) (SumG p q y) (by kernel_rfl) SumG.later ?gd ?step ?fin
    case gd =>
      intro i op k t ho hg x v hG
      have hi := (Array.getElem?_eq_some_iff.1 ho).1
      match i, hi with
      | 0, _ =>
        obtain rfl := Option.some.inj ho
        cases hg
      | 1, _ =>
        obtain rfl := Option.some.inj ho
        cases hg
      | 2, _ =>
        obtain rfl := Option.some.inj ho
        cases hg
      | 3, _ =>
        obtain rfl := Option.some.inj ho
        cases hg
      | 4, _ =>
        obtain rfl := Option.some.inj ho
        cases hg
      | 5, _ =>
        obtain rfl := Option.some.inj ho
        cases hg
      | 6, _ =>
        obtain rfl := Option.some.inj ho
        cases hg
      | 7, _ =>
        obtain rfl := Option.some.inj ho
        obtain ⟨rfl, rfl⟩ : 6 = k ∧ false = t := by simpa using hg
        exact hG
      | 8, _ =>
        obtain rfl := Option.some.inj ho
        obtain ⟨rfl, rfl⟩ : 6 = k ∧ false = t := by simpa using hg
        exact hG
      | 9, _ =>
        obtain rfl := Option.some.inj ho
        obtain ⟨rfl, rfl⟩ : 6 = k ∧ false = t := by simpa using hg
        exact hG
      | 10, _ =>
        obtain rfl := Option.some.inj ho
        obtain ⟨rfl, rfl⟩ : 6 = k ∧ false = t := by simpa using hg
        exact hG
      | 11, _ =>
        obtain rfl := Option.some.inj ho
        obtain ⟨rfl, rfl⟩ : 6 = k ∧ false = t := by simpa using hg
        exact hG
      | 12, _ =>
        obtain rfl := Option.some.inj ho
        obtain ⟨rfl, rfl⟩ : 6 = k ∧ false = t := by simpa using hg
        exact hG
      | 13, _ =>
        obtain rfl := Option.some.inj ho
        cases hg
      | 14, _ =>
        obtain rfl := Option.some.inj ho
        cases hg
      | 15, _ =>
        obtain rfl := Option.some.inj ho
        obtain ⟨rfl, rfl⟩ : 14 = k ∧ false = t := by simpa using hg
        exact hG
      | 16, _ =>
        obtain rfl := Option.some.inj ho
        obtain ⟨rfl, rfl⟩ : 14 = k ∧ false = t := by simpa using hg
        exact hG
      | 17, _ =>
        obtain rfl := Option.some.inj ho
        obtain ⟨rfl, rfl⟩ : 14 = k ∧ false = t := by simpa using hg
        exact hG
      | 18, _ =>
        obtain rfl := Option.some.inj ho
        obtain ⟨rfl, rfl⟩ : 14 = k ∧ false = t := by simpa using hg
        exact hG
      | 19, _ =>
        obtain rfl := Option.some.inj ho
        obtain ⟨rfl, rfl⟩ : 14 = k ∧ false = t := by simpa using hg
        exact hG
      | 20, _ =>
        obtain rfl := Option.some.inj ho
        obtain ⟨rfl, rfl⟩ : 14 = k ∧ false = t := by simpa using hg
        exact hG
      | 21, _ =>
        obtain rfl := Option.some.inj ho
        obtain ⟨rfl, rfl⟩ : 14 = k ∧ false = t := by simpa using hg
        exact hG
      | 22, _ =>
        obtain rfl := Option.some.inj ho
        obtain ⟨rfl, rfl⟩ : 14 = k ∧ false = t := by simpa using hg
        exact hG
      | 23, _ =>
        obtain rfl := Option.some.inj ho
        obtain ⟨rfl, rfl⟩ : 14 = k ∧ false = t := by simpa using hg
        exact hG
      | 24, _ =>
        obtain rfl := Option.some.inj ho
        cases hg
      | 25, _ =>
        obtain rfl := Option.some.inj ho
        cases hg
      | 26, _ =>
        obtain rfl := Option.some.inj ho
        obtain ⟨rfl, rfl⟩ : 25 = k ∧ false = t := by simpa using hg
        exact hG
      | 27, _ =>
        obtain rfl := Option.some.inj ho
        obtain ⟨rfl, rfl⟩ : 25 = k ∧ false = t := by simpa using hg
        exact hG
      | 28, _ =>
        obtain rfl := Option.some.inj ho
        obtain ⟨rfl, rfl⟩ : 25 = k ∧ false = t := by simpa using hg
        exact hG
      | 29, _ =>
        obtain rfl := Option.some.inj ho
        obtain ⟨rfl, rfl⟩ : 25 = k ∧ false = t := by simpa using hg
        exact hG
      | 30, _ =>
        obtain rfl := Option.some.inj ho
        obtain ⟨rfl, rfl⟩ : 25 = k ∧ false = t := by simpa using hg
        exact hG
      | 31, _ =>
        obtain rfl := Option.some.inj ho
        obtain ⟨rfl, rfl⟩ : 25 = k ∧ false = t := by simpa using hg
        exact hG
      | 32, _ =>
        obtain rfl := Option.some.inj ho
        obtain ⟨rfl, rfl⟩ : 25 = k ∧ false = t := by simpa using hg
        exact hG
      | 33, _ =>
        obtain rfl := Option.some.inj ho
        obtain ⟨rfl, rfl⟩ : 25 = k ∧ false = t := by simpa using hg
        exact hG
      | 34, _ =>
        obtain rfl := Option.some.inj ho
        obtain ⟨rfl, rfl⟩ : 25 = k ∧ false = t := by simpa using hg
        exact hG
      | 35, _ =>
        obtain rfl := Option.some.inj ho
        cases hg
      | 36, _ =>
        obtain rfl := Option.some.inj ho
        cases hg
      | 37, _ =>
        obtain rfl := Option.some.inj ho
        obtain ⟨rfl, rfl⟩ : 36 = k ∧ false = t := by simpa using hg
        exact hG
      | 38, _ =>
        obtain rfl := Option.some.inj ho
        obtain ⟨rfl, rfl⟩ : 36 = k ∧ false = t := by simpa using hg
        exact hG
      | 39, _ =>
        obtain rfl := Option.some.inj ho
        obtain ⟨rfl, rfl⟩ : 36 = k ∧ false = t := by simpa using hg
        exact hG
      | 40, _ =>
        obtain rfl := Option.some.inj ho
        obtain ⟨rfl, rfl⟩ : 36 = k ∧ false = t := by simpa using hg
        exact hG
      | 41, _ =>
        obtain rfl := Option.some.inj ho
        obtain ⟨rfl, rfl⟩ : 36 = k ∧ false = t := by simpa using hg
        exact hG
      | 42, _ =>
        obtain rfl := Option.some.inj ho
        obtain ⟨rfl, rfl⟩ : 36 = k ∧ false = t := by simpa using hg
        exact hG
      | 43, _ =>
        obtain rfl := Option.some.inj ho
        obtain ⟨rfl, rfl⟩ : 36 = k ∧ false = t := by simpa using hg
        exact hG
      | 44, _ =>
        obtain rfl := Option.some.inj ho
        obtain ⟨rfl, rfl⟩ : 36 = k ∧ false = t := by simpa using hg
        exact hG
      | 45, _ =>
        obtain rfl := Option.some.inj ho
        obtain ⟨rfl, rfl⟩ : 36 = k ∧ false = t := by simpa using hg
        exact hG
      | 46, _ =>
        obtain rfl := Option.some.inj ho
        obtain ⟨rfl, rfl⟩ : 36 = k ∧ false = t := by simpa using hg
        exact hG
      | 47, _ =>
        obtain rfl := Option.some.inj ho
        cases hg
      | n + 48, h => exact absurd h (by simp)
    case step =>
      intro i op b v ho hb hrest hdep
      have r0 : b.eval (.tmp 0) = .slice o p.length c := hrest 0 (Rg.free_spec (by kernel_rfl))
      have r1 : b.eval (.tmp 1) = .slice o2 q.length c2 := hrest 1 (Rg.free_spec (by kernel_rfl))
      have r7 : b.eval (.tmp 7) = .slice (some ⟨B1, 0, none⟩) p.length (p.length + 6) := hrest 7 (Rg.free_spec (by kernel_rfl))
      have r8 : b.eval (.tmp 8) = .slice (some ⟨B2, 0, none⟩) q.length (q.length + 6) := hrest 8 (Rg.free_spec (by kernel_rfl))
      have r9 : b.eval (.tmp 9) = t9 := hrest 9 (Rg.free_spec (by kernel_rfl))
      have r10 : b.eval (.tmp 10) = .int .u8 (y.toNat : Int) := (hrest 10 (Rg.free_spec (by kernel_rfl))).trans (by first | rfl | (rw [← hy]; rfl))
      have hi := (Array.getElem?_eq_some_iff.1 ho).1
      match i, hi with
      | 0, _ =>
        obtain rfl := Option.some.inj ho
        refine Rg.does_move rfl ?_
        rw [r7]; exact hA.later hb
      | 1, _ =>
        obtain rfl := Option.some.inj ho
        have d1 : RowV (p) (b.eval (.tmp 32)) v := hdep ⟨0, .data⟩ (by simp) rfl _ _ rfl rfl
        exact Rg.does_fn rfl (enters_of Try.func11 (by kernel_rfl) rfl) (args := #[b.eval (.tmp 32)]) (by simp) (trim_rv d1 (by omega))
      | 2, _ =>
        obtain rfl := Option.some.inj ho
        have d1 : RowV (tr p) (b.eval (.tmp 33)) v := hdep ⟨1, .data⟩ (by simp) rfl _ _ rfl rfl
        exact Rg.does_conv rfl (conv_rv d1) (rfl)
      | 3, _ =>
        obtain rfl := Option.some.inj ho
        refine Rg.does_move rfl ?_
        rw [r9]; exact hT.later hb
      | 4, _ =>
        obtain rfl := Option.some.inj ho
        have d1 : RowV (tr p) (b.eval (.tmp 35)) v := hdep ⟨3, .data⟩ (by simp) rfl _ _ rfl rfl
        exact Rg.does_conv rfl (conv_rv d1) (rfl)
      | 5, _ =>
        obtain rfl := Option.some.inj ho
        have d1 : (b.eval (.tmp 34)) = .string ⟨(tr p).toArray⟩ := hdep ⟨2, .data⟩ (by simp) rfl _ _ rfl rfl
        have d2 : (b.eval (.tmp 36)) = .string ⟨(tr p).toArray⟩ := hdep ⟨4, .data⟩ (by simp) rfl _ _ rfl rfl
        have f1 : b.tmps[34]?.getD undef = _ := (show _ = b.eval (.tmp 34) by simp [Act.eval]).trans d1
        have f2 : b.tmps[36]?.getD undef = _ := (show _ = b.eval (.tmp 36) by simp [Act.eval]).trans d2
        refine Rg.does_pure (.bool false) ?_ rfl
        have hu := Try.underlying9
        simp only [execOp]
        go_simp
      | 6, _ =>
        obtain rfl := Option.some.inj ho
        have d1 : b.eval (.tmp 37) = .bool false := hdep ⟨5, .data⟩ (by simp) rfl _ _ rfl rfl
        exact Rg.does_move rfl d1
      | 7, _ =>
        obtain rfl := Option.some.inj ho
        refine Rg.does_move rfl ?_
        rw [r7]; exact hA.later hb
      | 8, _ =>
        obtain rfl := Option.some.inj ho
        have d1 : RowV (p) (b.eval (.tmp 39)) v := hdep ⟨7, .data⟩ (by simp) rfl _ _ rfl rfl
        obtain ⟨o3, c3, e3, hr3⟩ := d1
        refine Rg.does_fn rfl (enters_of Try.func12 (by kernel_rfl) rfl) (args := #[b.eval (.tmp 39)]) (by simp) ?_
        rw [e3]
        refine (deg_any o3 p c3 v hr3).mono ?_
        rintro e v' ⟨rfl, h⟩
        exact ⟨_, rfl, by show _ = _; rw [tr_length], h⟩
      | 9, _ =>
        obtain rfl := Option.some.inj ho
        refine Rg.does_move rfl ?_
        rw [r9]; exact hT.later hb
      | 10, _ =>
        obtain rfl := Option.some.inj ho
        have d1 : RowV (tr p) (b.eval (.tmp 41)) v := hdep ⟨9, .data⟩ (by simp) rfl _ _ rfl rfl
        obtain ⟨o3, c3, e3, hr3⟩ := d1
        have f1 : b.tmps[41]?.getD undef = _ := (show _ = b.eval (.tmp 41) by simp [Act.eval]).trans e3
        refine Rg.does_pure (.int .i64 ((tr p).length : Int)) ?_ rfl
        simp only [execOp]
        go_simp
      | 11, _ =>
        obtain rfl := Option.some.inj ho
        have d1 : b.eval (.tmp 42) = .int .i64 ((tr p).length : Int) := hdep ⟨10, .data⟩ (by simp) rfl _ _ rfl rfl
        have f1 : b.tmps[42]?.getD undef = _ := (show _ = b.eval (.tmp 42) by simp [Act.eval]).trans d1
        refine Rg.does_pure (.int .i64 (((tr p).length : Int) - 1)) ?_ rfl
        have hle := tr_le p
        have hwr : IntKind.i64.wrap (((tr p).length : Int) - 1) = ((tr p).length : Int) - 1 := by rw [IntKind.wrap_i64]; omega
        simp only [execOp]
        go_simp
      | 12, _ =>
        obtain rfl := Option.some.inj ho
        have d1 : (b.eval (.tmp 40)) = .int .i64 (((tr p).length : Int) - 1) := hdep ⟨8, .data⟩ (by simp) rfl _ _ rfl rfl
        have d2 : (b.eval (.tmp 43)) = .int .i64 (((tr p).length : Int) - 1) := hdep ⟨11, .data⟩ (by simp) rfl _ _ rfl rfl
        have f1 : b.tmps[40]?.getD undef = _ := (show _ = b.eval (.tmp 40) by simp [Act.eval]).trans d1
        have f2 : b.tmps[43]?.getD undef = _ := (show _ = b.eval (.tmp 43) by simp [Act.eval]).trans d2
        refine Rg.does_pure (.bool false) ?_ rfl
        have hu := Try.underlying9
        simp only [execOp]
        go_simp
      | 13, _ =>
        obtain rfl := Option.some.inj ho
        have d1 : b.eval (.tmp 38) = .bool false := hdep ⟨6, .data⟩ (by simp) rfl _ _ rfl rfl
        have d2 : b.eval (.tmp 44) = .bool false := hdep ⟨12, .data⟩ (by simp) rfl _ _ rfl rfl
        exact Rg.does_pick rfl d1 d2
      | 14, _ =>
        obtain rfl := Option.some.inj ho
        have d1 : b.eval (.tmp 45) = .bool false := hdep ⟨13, .data⟩ (by simp) rfl _ _ rfl rfl
        exact Rg.does_move rfl d1
      | 15, _ =>
        obtain rfl := Option.some.inj ho
        refine Rg.does_move rfl ?_
        rw [r7]; exact hA.later hb
      | 16, _ =>
        obtain rfl := Option.some.inj ho
        refine Rg.does_move rfl ?_
        rw [r8]; exact hB.later hb
      | 17, _ =>
        obtain rfl := Option.some.inj ho
        have d1 : RowV (p) (b.eval (.tmp 47)) v := hdep ⟨15, .data⟩ (by simp) rfl _ _ rfl rfl
        have d2 : RowV (q) (b.eval (.tmp 48)) v := hdep ⟨16, .data⟩ (by simp) rfl _ _ rfl rfl
        exact Rg.does_fn rfl (enters_of Try.func13 (by kernel_rfl) rfl) (args := #[b.eval (.tmp 47), b.eval (.tmp 48)]) (by simp) (add_rv d1 d2 (by omega) (by omega))
      | 18, _ =>
        obtain rfl := Option.some.inj ho
        have d1 : RowV (tr (addL p q)) (b.eval (.tmp 49)) v := hdep ⟨17, .data⟩ (by simp) rfl _ _ rfl rfl
        exact Rg.does_conv rfl (conv_rv d1) (rfl)
      | 19, _ =>
        obtain rfl := Option.some.inj ho
        refine Rg.does_move rfl ?_
        rw [r0]; exact hp.later hb
      | 20, _ =>
        obtain rfl := Option.some.inj ho
        refine Rg.does_move rfl ?_
        rw [r1]; exact hq.later hb
      | 21, _ =>
        obtain rfl := Option.some.inj ho
        have d1 : RowV (p) (b.eval (.tmp 51)) v := hdep ⟨19, .data⟩ (by simp) rfl _ _ rfl rfl
        have d2 : RowV (q) (b.eval (.tmp 52)) v := hdep ⟨20, .data⟩ (by simp) rfl _ _ rfl rfl
        exact Rg.does_fn rfl (enters_of Try.func14 (by kernel_rfl) rfl) (args := #[b.eval (.tmp 51), b.eval (.tmp 52)]) (by simp) (raddp_rv d1 d2 (by omega) (by omega))
      | 22, _ =>
        obtain rfl := Option.some.inj ho
        have d1 : RowV (tr (addL p q)) (b.eval (.tmp 53)) v := hdep ⟨21, .data⟩ (by simp) rfl _ _ rfl rfl
        exact Rg.does_conv rfl (conv_rv d1) (rfl)
      | 23, _ =>
        obtain rfl := Option.some.inj ho
        have d1 : (b.eval (.tmp 50)) = .string ⟨(tr (addL p q)).toArray⟩ := hdep ⟨18, .data⟩ (by simp) rfl _ _ rfl rfl
        have d2 : (b.eval (.tmp 54)) = .string ⟨(tr (addL p q)).toArray⟩ := hdep ⟨22, .data⟩ (by simp) rfl _ _ rfl rfl
        have f1 : b.tmps[50]?.getD undef = _ := (show _ = b.eval (.tmp 50) by simp [Act.eval]).trans d1
        have f2 : b.tmps[54]?.getD undef = _ := (show _ = b.eval (.tmp 54) by simp [Act.eval]).trans d2
        refine Rg.does_pure (.bool false) ?_ rfl
        have hu := Try.underlying9
        simp only [execOp]
        go_simp
      | 24, _ =>
        obtain rfl := Option.some.inj ho
        have d1 : b.eval (.tmp 46) = .bool false := hdep ⟨14, .data⟩ (by simp) rfl _ _ rfl rfl
        have d2 : b.eval (.tmp 55) = .bool false := hdep ⟨23, .data⟩ (by simp) rfl _ _ rfl rfl
        exact Rg.does_pick rfl d1 d2
      | 25, _ =>
        obtain rfl := Option.some.inj ho
        have d1 : b.eval (.tmp 56) = .bool false := hdep ⟨24, .data⟩ (by simp) rfl _ _ rfl rfl
        exact Rg.does_move rfl d1
      | 26, _ =>
        obtain rfl := Option.some.inj ho
        refine Rg.does_move rfl ?_
        rw [r7]; exact hA.later hb
      | 27, _ =>
        obtain rfl := Option.some.inj ho
        refine Rg.does_move rfl ?_
        rw [r8]; exact hB.later hb
      | 28, _ =>
        obtain rfl := Option.some.inj ho
        have d1 : RowV (p) (b.eval (.tmp 58)) v := hdep ⟨26, .data⟩ (by simp) rfl _ _ rfl rfl
        have d2 : RowV (q) (b.eval (.tmp 59)) v := hdep ⟨27, .data⟩ (by simp) rfl _ _ rfl rfl
        exact Rg.does_fn rfl (enters_of Try.func15 (by kernel_rfl) rfl) (args := #[b.eval (.tmp 58), b.eval (.tmp 59)]) (by simp) (mul_rv d1 d2 (by omega))
      | 29, _ =>
        obtain rfl := Option.some.inj ho
        have d1 : RowV (tr (mulL p q)) (b.eval (.tmp 60)) v := hdep ⟨28, .data⟩ (by simp) rfl _ _ rfl rfl
        exact Rg.does_conv rfl (conv_rv d1) (rfl)
      | 30, _ =>
        obtain rfl := Option.some.inj ho
        refine Rg.does_move rfl ?_
        rw [r0]; exact hp.later hb
      | 31, _ =>
        obtain rfl := Option.some.inj ho
        refine Rg.does_move rfl ?_
        rw [r1]; exact hq.later hb
      | 32, _ =>
        obtain rfl := Option.some.inj ho
        have d1 : RowV (p) (b.eval (.tmp 62)) v := hdep ⟨30, .data⟩ (by simp) rfl _ _ rfl rfl
        have d2 : RowV (q) (b.eval (.tmp 63)) v := hdep ⟨31, .data⟩ (by simp) rfl _ _ rfl rfl
        exact Rg.does_fn rfl (enters_of Try.func16 (by kernel_rfl) rfl) (args := #[b.eval (.tmp 62), b.eval (.tmp 63)]) (by simp) (rmulp_rv d1 d2 (by omega))
      | 33, _ =>
        obtain rfl := Option.some.inj ho
        have d1 : RowV (tr (mulL p q)) (b.eval (.tmp 64)) v := hdep ⟨32, .data⟩ (by simp) rfl _ _ rfl rfl
        exact Rg.does_conv rfl (conv_rv d1) (rfl)
      | 34, _ =>
        obtain rfl := Option.some.inj ho
        have d1 : (b.eval (.tmp 61)) = .string ⟨(tr (mulL p q)).toArray⟩ := hdep ⟨29, .data⟩ (by simp) rfl _ _ rfl rfl
        have d2 : (b.eval (.tmp 65)) = .string ⟨(tr (mulL p q)).toArray⟩ := hdep ⟨33, .data⟩ (by simp) rfl _ _ rfl rfl
        have f1 : b.tmps[61]?.getD undef = _ := (show _ = b.eval (.tmp 61) by simp [Act.eval]).trans d1
        have f2 : b.tmps[65]?.getD undef = _ := (show _ = b.eval (.tmp 65) by simp [Act.eval]).trans d2
        refine Rg.does_pure (.bool false) ?_ rfl
        have hu := Try.underlying9
        simp only [execOp]
        go_simp
      | 35, _ =>
        obtain rfl := Option.some.inj ho
        have d1 : b.eval (.tmp 57) = .bool false := hdep ⟨25, .data⟩ (by simp) rfl _ _ rfl rfl
        have d2 : b.eval (.tmp 66) = .bool false := hdep ⟨34, .data⟩ (by simp) rfl _ _ rfl rfl
        exact Rg.does_pick rfl d1 d2
      | 36, _ =>
        obtain rfl := Option.some.inj ho
        have d1 : b.eval (.tmp 67) = .bool false := hdep ⟨35, .data⟩ (by simp) rfl _ _ rfl rfl
        exact Rg.does_move rfl d1
      | 37, _ =>
        obtain rfl := Option.some.inj ho
        refine Rg.does_move rfl ?_
        rw [r7]; exact hA.later hb
      | 38, _ =>
        obtain rfl := Option.some.inj ho
        refine Rg.does_move rfl ?_
        rw [r10]; rfl
      | 39, _ =>
        obtain rfl := Option.some.inj ho
        have d1 : RowV (p) (b.eval (.tmp 69)) v := hdep ⟨37, .data⟩ (by simp) rfl _ _ rfl rfl
        have d2 : b.eval (.tmp 70) = .int .u8 (y.toNat : Int) := hdep ⟨38, .data⟩ (by simp) rfl _ _ rfl rfl
        obtain ⟨o3, c3, e3, hr3⟩ := d1
        refine Rg.does_fn rfl (enters_of Try.func17 (by kernel_rfl) rfl) (args := #[b.eval (.tmp 69), b.eval (.tmp 70)]) (by simp) ?_
        rw [e3, d2]
        exact scale_any p y o3 c3 v hr3 (by omega)
      | 40, _ =>
        obtain rfl := Option.some.inj ho
        have d1 : RowV (tr (scaleL p y)) (b.eval (.tmp 71)) v := hdep ⟨39, .data⟩ (by simp) rfl _ _ rfl rfl
        exact Rg.does_conv rfl (conv_rv d1) (by show _ = _; rw [scale_mul])
      | 41, _ =>
        obtain rfl := Option.some.inj ho
        refine Rg.does_move rfl ?_
        rw [r0]; exact hp.later hb
      | 42, _ =>
        obtain rfl := Option.some.inj ho
        refine Rg.does_move rfl ?_
        rw [r10]; rfl
      | 43, _ =>
        obtain rfl := Option.some.inj ho
        have d1 : b.eval (.tmp 74) = .int .u8 (y.toNat : Int) := hdep ⟨42, .data⟩ (by simp) rfl _ _ rfl rfl
        have f1 : b.tmps[74]?.getD undef = _ := (show _ = b.eval (.tmp 74) by simp [Act.eval]).trans d1
        refine Rg.does_new (v' := v.alloc (.cells (bytesV [y]).toArray 5)) (.slice (some ⟨v.heap.size, 0, none⟩) 1 1) ?_ ⟨_, _, rfl, row_cells (World.alloc_heap_new _ _) (by unfold maxLen; simp)⟩ ((Below.refl _ _).alloc (Nat.le_refl _) _)
        simp only [execOp]
        go_simp
        rfl
      | 44, _ =>
        obtain rfl := Option.some.inj ho
        have d1 : RowV (p) (b.eval (.tmp 73)) v := hdep ⟨41, .data⟩ (by simp) rfl _ _ rfl rfl
        have d2 : RowV ([y]) (b.eval (.tmp 75)) v := hdep ⟨43, .data⟩ (by simp) rfl _ _ rfl rfl
        exact Rg.does_fn rfl (enters_of Try.func16 (by kernel_rfl) rfl) (args := #[b.eval (.tmp 73), b.eval (.tmp 75)]) (by simp) (rmulp_rv d1 d2 (by simp; omega))
      | 45, _ =>
        obtain rfl := Option.some.inj ho
        have d1 : RowV (tr (mulL p [y])) (b.eval (.tmp 76)) v := hdep ⟨44, .data⟩ (by simp) rfl _ _ rfl rfl
        exact Rg.does_conv rfl (conv_rv d1) (rfl)
      | 46, _ =>
        obtain rfl := Option.some.inj ho
        have d1 : (b.eval (.tmp 72)) = .string ⟨(tr (mulL p [y])).toArray⟩ := hdep ⟨40, .data⟩ (by simp) rfl _ _ rfl rfl
        have d2 : (b.eval (.tmp 77)) = .string ⟨(tr (mulL p [y])).toArray⟩ := hdep ⟨45, .data⟩ (by simp) rfl _ _ rfl rfl
        have f1 : b.tmps[72]?.getD undef = _ := (show _ = b.eval (.tmp 72) by simp [Act.eval]).trans d1
        have f2 : b.tmps[77]?.getD undef = _ := (show _ = b.eval (.tmp 77) by simp [Act.eval]).trans d2
        refine Rg.does_pure (.bool false) ?_ rfl
        have hu := Try.underlying9
        simp only [execOp]
        go_simp
      | 47, _ =>
        obtain rfl := Option.some.inj ho
        have d1 : b.eval (.tmp 68) = .bool false := hdep ⟨36, .data⟩ (by simp) rfl _ _ rfl rfl
        have d2 : b.eval (.tmp 78) = .bool false := hdep ⟨46, .data⟩ (by simp) rfl _ _ rfl rfl
        exact Rg.does_pick rfl d1 d2
      | n + 48, h => exact absurd h (by simp)
    case fin =>
      intro b v hb hs hd hrest hall
      refine ⟨rfl, hb, fun i => b.tmps.getD i undef, ?_⟩
      have e0 : b.tmps.getD 0 undef = .slice o p.length c := hrest 0 (Rg.free_spec (by kernel_rfl))
      have e1 : b.tmps.getD 1 undef = .slice o2 q.length c2 := hrest 1 (Rg.free_spec (by kernel_rfl))
      have e2 : b.tmps.getD 2 undef = .int .i64 n := hrest 2 (Rg.free_spec (by kernel_rfl))
      have e7 : b.tmps.getD 7 undef = .slice (some ⟨B1, 0, none⟩) p.length (p.length + 6) := hrest 7 (Rg.free_spec (by kernel_rfl))
      have e8 : b.tmps.getD 8 undef = .slice (some ⟨B2, 0, none⟩) q.length (q.length + 6) := hrest 8 (Rg.free_spec (by kernel_rfl))
      have e79 : b.tmps.getD 79 undef = .bool false := hall 47 _ 79 rfl rfl
      have e := lit_of b.tmps 125 hs
      obtain ⟨tm, df⟩ := b
      obtain rfl : df = [] := hd
      dsimp only at e0 e1 e2 e7 e8 e79 e ⊢
      congr 1
      refine e.trans ?_
      rw [← e0, ← e1, ← e2, ← e7, ← e8, ← e79]
      rfl
  case rest =>
    rintro e b v ⟨rfl, hb, f, rfl⟩
    have hA := hA.later hb
    have hM := HM4.out.later hb
    have hN := HN4.out.later hb
    have hRP := (HP.out.later HG4.out).later hb
    have hRQ := (HQ.out.later HG4.out).later hb
    have hcap := hRP.le
    have hcap2 := hRP.cap
    simp only [bytesV_length] at hcap
    unfold maxLen at hcap2
    have HGV := Lib.hid (Kit.step HG4.out hb)
    obtain ⟨i0, hi, hz0, hz1, hz2⟩ := info_parts info_u8
    clear hT hB hp hq hb hy
    by_cases hn : n < 0
    · have ESH : Hid (shN n = 0) := Lib.hid (by unfold shN; rw [if_pos hn])
      have ELO : Hid (lowN n p.length = 0) := Lib.hid (by unfold lowN; rw [if_pos hn])
      have hn2 : ¬ 1000 < (0 : Int) := by omega
      by_cases hpl : 0 < p.length
      · have hpi : (0 : Int) < p.length := by omega
        go_wp2_with (at_make; refine wpList_make_full _ rfl _ _ 22 rfl v.heap.size 5 i0 (.int .u8 0) 1 Try.underlying22 hi hz0 hz1 _ _ _ _ (0) rfl rfl (by omega) (by omega) (by rw [hz2]; omega) (by unfold maxLen; omega) (Nat.le_refl _) ?_)
        intro w5 hown hgrow
        have hb5 : Below v.heap.size v w5 := (Below.refl _ _).grown hgrow (Nat.le_refl _) (fun k h => by cases h)
        obtain ⟨zs, hzs⟩ : ∃ zs : List UInt8, zs = List.replicate (0) 0 := ⟨_, rfl⟩
        have hzl : zs.length = 0 := by rw [hzs, List.length_replicate]
        have hzb : bytesV zs = List.replicate (0) (.int .u8 0) := by rw [hzs]; exact List.map_replicate
        have HOWN : Hid (w5.ownsRow v.heap.size 5 1 (.slice (some ⟨v.heap.size, 0, none⟩) (0) (0)) (0) (bytesV zs)) := Lib.hid (by
          rw [toList_madeCells_one, ← hzb] at hown; exact hown)
        have HZS : Hid (shiftL p (0) = zs ++ p) := Lib.hid (by rw [hzs]; rfl)
        have HZL := Lib.hid hzl
        clear hzs hzl hzb
        have HB5 := Lib.hid hb5
        have HP5 := Lib.hid (hRP.later hb5)
        clear hown hgrow hb5
        go_wp2_with (at_builtin; refine append_row rfl (.tmp 86) (.tmp 87) rfl v.heap.size _ (0) zs rfl HOWN.out o p.length c p rfl rfl HP5.out (by omega) HB5.out.size ?_)
        intro v6 w6 hv6 hg6
        have HB6 := Lib.hid (own_below (n := 0) HB5.out HOWN.out hg6)
        have h6 : RowV (shiftL p (0)) v6 w6 := by
          rw [HZS.out]; exact owns_rv hv6 (by rw [List.length_append, HZL.out]; try omega)
        have HR := Lib.hid (rtrim_rv h6 (by rw [HZS.out, List.length_append, HZL.out]; omega))
        clear hv6 hg6 h6
        go_wp2_with fail
        refine HR.out.mono ?_; rintro e w7 ⟨t12, rfl, hr7, hb7⟩
        have HB7 := Lib.hid (Kit.step HB6.out hb7)
        have HS := Lib.hid hr7
        clear hr7 hb7 HR
        go_wp2_with fail
        have hS : RowV (tr (shiftL p (shN n))) t12 w7 := by rw [ESH.out]; exact HS.out
        have hC : RowV (p.take (lowN n p.length)) (.slice o (0) c) w7 := by
          rw [ELO.out]; exact ⟨o, c, by simp; try omega, (hRP.later HB7.out).take _⟩
        have hA := hA.later HB7.out
        have hM := hM.later HB7.out
        have hN := hN.later HB7.out
        have hRP := hRP.later HB7.out
        have hRQ := hRQ.later HB7.out
        refine Rg.region_grow (by kernel_rfl) (LstG p q n o o2 c c2 B1 B2) (by kernel_rfl) LstG.later ?gd ?step ?fin
        case gd =>
          intro i op k t ho hg x v hG
          have hi := (Array.getElem?_eq_some_iff.1 ho).1
          match i, hi with
          | 0, _ =>
            obtain rfl := Option.some.inj ho
            cases hg
          | 1, _ =>
            obtain rfl := Option.some.inj ho
            cases hg
          | 2, _ =>
            obtain rfl := Option.some.inj ho
            cases hg
          | 3, _ =>
            obtain rfl := Option.some.inj ho
            cases hg
          | 4, _ =>
            obtain rfl := Option.some.inj ho
            cases hg
          | 5, _ =>
            obtain rfl := Option.some.inj ho
            cases hg
          | 6, _ =>
            obtain rfl := Option.some.inj ho
            cases hg
          | 7, _ =>
            obtain rfl := Option.some.inj ho
            cases hg
          | 8, _ =>
            obtain rfl := Option.some.inj ho
            obtain ⟨rfl, rfl⟩ : 7 = k ∧ true = t := by simpa using hg
            exact hG
          | 9, _ =>
            obtain rfl := Option.some.inj ho
            obtain ⟨rfl, rfl⟩ : 7 = k ∧ true = t := by simpa using hg
            exact hG
          | 10, _ =>
            obtain rfl := Option.some.inj ho
            obtain ⟨rfl, rfl⟩ : 7 = k ∧ true = t := by simpa using hg
            exact hG
          | 11, _ =>
            obtain rfl := Option.some.inj ho
            obtain ⟨rfl, rfl⟩ : 7 = k ∧ true = t := by simpa using hg
            exact hG
          | 12, _ =>
            obtain rfl := Option.some.inj ho
            obtain ⟨rfl, rfl⟩ : 7 = k ∧ true = t := by simpa using hg
            exact hG
          | 13, _ =>
            obtain rfl := Option.some.inj ho
            obtain ⟨rfl, rfl⟩ : 7 = k ∧ true = t := by simpa using hg
            exact hG
          | 14, _ =>
            obtain rfl := Option.some.inj ho
            obtain ⟨rfl, rfl⟩ : 7 = k ∧ true = t := by simpa using hg
            exact hG
          | 15, _ =>
            obtain rfl := Option.some.inj ho
            obtain ⟨rfl, rfl⟩ : 7 = k ∧ true = t := by simpa using hg
            exact hG
          | 16, _ =>
            obtain rfl := Option.some.inj ho
            cases hg
          | 17, _ =>
            obtain rfl := Option.some.inj ho
            cases hg
          | 18, _ =>
            obtain rfl := Option.some.inj ho
            obtain ⟨rfl, rfl⟩ : 17 = k ∧ true = t := by simpa using hg
            exact hG
          | 19, _ =>
            obtain rfl := Option.some.inj ho
            obtain ⟨rfl, rfl⟩ : 17 = k ∧ true = t := by simpa using hg
            exact hG
          | 20, _ =>
            obtain rfl := Option.some.inj ho
            obtain ⟨rfl, rfl⟩ : 17 = k ∧ true = t := by simpa using hg
            exact hG
          | 21, _ =>
            obtain rfl := Option.some.inj ho
            cases hg
          | 22, _ =>
            obtain rfl := Option.some.inj ho
            cases hg
          | 23, _ =>
            obtain rfl := Option.some.inj ho
            obtain ⟨rfl, rfl⟩ : 22 = k ∧ true = t := by simpa using hg
            exact hG
          | 24, _ =>
            obtain rfl := Option.some.inj ho
            obtain ⟨rfl, rfl⟩ : 22 = k ∧ true = t := by simpa using hg
            exact hG
          | 25, _ =>
            obtain rfl := Option.some.inj ho
            obtain ⟨rfl, rfl⟩ : 22 = k ∧ true = t := by simpa using hg
            exact hG
          | 26, _ =>
            obtain rfl := Option.some.inj ho
            cases hg
          | 27, _ =>
            obtain rfl := Option.some.inj ho
            cases hg
          | n + 28, h => exact absurd h (by simp)
        case step =>
          intro i op b v ho hb hrest hdep
          have r0 : b.eval (.tmp 0) = .slice o p.length c := hrest 0 (Rg.free_spec (by kernel_rfl))
          have r1 : b.eval (.tmp 1) = .slice o2 q.length c2 := hrest 1 (Rg.free_spec (by kernel_rfl))
          have r2 : b.eval (.tmp 2) = .int .i64 n := hrest 2 (Rg.free_spec (by kernel_rfl))
          have r7 : b.eval (.tmp 7) = .slice (some ⟨B1, 0, none⟩) p.length (p.length + 6) := hrest 7 (Rg.free_spec (by kernel_rfl))
          have r8 : b.eval (.tmp 8) = .slice (some ⟨B2, 0, none⟩) q.length (q.length + 6) := hrest 8 (Rg.free_spec (by kernel_rfl))
          have r12 : b.eval (.tmp 12) = t12 := hrest 12 (Rg.free_spec (by kernel_rfl))
          have r13 : b.eval (.tmp 13) = .slice o (0) c := hrest 13 (Rg.free_spec (by kernel_rfl))
          have hi := (Array.getElem?_eq_some_iff.1 ho).1
          match i, hi with
          | 0, _ =>
            obtain rfl := Option.some.inj ho
            refine Rg.does_move rfl ?_
            rw [r7]; exact hA.later hb
          | 1, _ =>
            obtain rfl := Option.some.inj ho
            refine Rg.does_move rfl ?_
            rw [r2]; rfl
          | 2, _ =>
            obtain rfl := Option.some.inj ho
            have d1 : RowV (p) (b.eval (.tmp 98)) v := hdep ⟨0, .data⟩ (by simp) rfl _ _ rfl rfl
            have d2 : b.eval (.tmp 99) = .int .i64 n := hdep ⟨1, .data⟩ (by simp) rfl _ _ rfl rfl
            obtain ⟨o3, c3, e3, hr3⟩ := d1
            refine Rg.does_fn rfl (enters_of Try.func18 (by kernel_rfl) rfl) (args := #[b.eval (.tmp 98), b.eval (.tmp 99)]) (by simp) ?_
            rw [e3, d2]
            exact shift_any p n o3 c3 v hr3 (by omega)
          | 3, _ =>
            obtain rfl := Option.some.inj ho
            have d1 : RowV (tr (shiftL p (shN n))) (b.eval (.tmp 100)) v := hdep ⟨2, .data⟩ (by simp) rfl _ _ rfl rfl
            exact Rg.does_conv rfl (conv_rv d1) (rfl)
          | 4, _ =>
            obtain rfl := Option.some.inj ho
            refine Rg.does_move rfl ?_
            rw [r12]; exact hS.later hb
          | 5, _ =>
            obtain rfl := Option.some.inj ho
            have d1 : RowV (tr (shiftL p (shN n))) (b.eval (.tmp 102)) v := hdep ⟨4, .data⟩ (by simp) rfl _ _ rfl rfl
            exact Rg.does_conv rfl (conv_rv d1) (rfl)
          | 6, _ =>
            obtain rfl := Option.some.inj ho
            have d1 : (b.eval (.tmp 101)) = .string ⟨(tr (shiftL p (shN n))).toArray⟩ := hdep ⟨3, .data⟩ (by simp) rfl _ _ rfl rfl
            have d2 : (b.eval (.tmp 103)) = .string ⟨(tr (shiftL p (shN n))).toArray⟩ := hdep ⟨5, .data⟩ (by simp) rfl _ _ rfl rfl
            have f1 : b.tmps[101]?.getD undef = _ := (show _ = b.eval (.tmp 101) by simp [Act.eval]).trans d1
            have f2 : b.tmps[103]?.getD undef = _ := (show _ = b.eval (.tmp 103) by simp [Act.eval]).trans d2
            refine Rg.does_pure (.bool true) ?_ rfl
            have hu := Try.underlying9
            simp only [execOp]
            go_simp
          | 7, _ =>
            obtain rfl := Option.some.inj ho
            have d1 : b.eval (.tmp 104) = .bool true := hdep ⟨6, .data⟩ (by simp) rfl _ _ rfl rfl
            exact Rg.does_move rfl d1
          | 8, _ =>
            obtain rfl := Option.some.inj ho
            refine Rg.does_move rfl ?_
            rw [r7]; exact hA.later hb
          | 9, _ =>
            obtain rfl := Option.some.inj ho
            refine Rg.does_move rfl ?_
            rw [r2]; rfl
          | 10, _ =>
            obtain rfl := Option.some.inj ho
            have d1 : RowV (p) (b.eval (.tmp 106)) v := hdep ⟨8, .data⟩ (by simp) rfl _ _ rfl rfl
            have d2 : b.eval (.tmp 107) = .int .i64 n := hdep ⟨9, .data⟩ (by simp) rfl _ _ rfl rfl
            obtain ⟨o3, c3, e3, hr3⟩ := d1
            refine Rg.does_fn rfl (enters_of Try.func19 (by kernel_rfl) rfl) (args := #[b.eval (.tmp 106), b.eval (.tmp 107)]) (by simp) ?_
            rw [e3, d2]
            exact low_any p n o3 c3 v hr3 (by omega)
          | 11, _ =>
            obtain rfl := Option.some.inj ho
            have d1 : RowV (tr (p.take (lowN n p.length))) (b.eval (.tmp 108)) v := hdep ⟨10, .data⟩ (by simp) rfl _ _ rfl rfl
            exact Rg.does_conv rfl (conv_rv d1) (rfl)
          | 12, _ =>
            obtain rfl := Option.some.inj ho
            refine Rg.does_move rfl ?_
            rw [r13]; exact hC.later hb
          | 13, _ =>
            obtain rfl := Option.some.inj ho
            have d1 : RowV (p.take (lowN n p.length)) (b.eval (.tmp 110)) v := hdep ⟨12, .data⟩ (by simp) rfl _ _ rfl rfl
            exact Rg.does_fn rfl (enters_of Try.func10 (by kernel_rfl) rfl) (args := #[b.eval (.tmp 110)]) (by simp) (rtrim_rv d1 (by simp; omega))
          | 14, _ =>
            obtain rfl := Option.some.inj ho
            have d1 : RowV (tr (p.take (lowN n p.length))) (b.eval (.tmp 111)) v := hdep ⟨13, .data⟩ (by simp) rfl _ _ rfl rfl
            exact Rg.does_conv rfl (conv_rv d1) (rfl)
          | 15, _ =>
            obtain rfl := Option.some.inj ho
            have d1 : (b.eval (.tmp 109)) = .string ⟨(tr (p.take (lowN n p.length))).toArray⟩ := hdep ⟨11, .data⟩ (by simp) rfl _ _ rfl rfl
            have d2 : (b.eval (.tmp 112)) = .string ⟨(tr (p.take (lowN n p.length))).toArray⟩ := hdep ⟨14, .data⟩ (by simp) rfl _ _ rfl rfl
            have f1 : b.tmps[109]?.getD undef = _ := (show _ = b.eval (.tmp 109) by simp [Act.eval]).trans d1
            have f2 : b.tmps[112]?.getD undef = _ := (show _ = b.eval (.tmp 112) by simp [Act.eval]).trans d2
            refine Rg.does_pure (.bool true) ?_ rfl
            have hu := Try.underlying9
            simp only [execOp]
            go_simp
          | 16, _ =>
            obtain rfl := Option.some.inj ho
            have d1 : b.eval (.tmp 105) = .bool true := hdep ⟨7, .data⟩ (by simp) rfl _ _ rfl rfl
            have d2 : b.eval (.tmp 113) = .bool true := hdep ⟨15, .data⟩ (by simp) rfl _ _ rfl rfl
            exact Rg.does_pick rfl d1 d2
          | 17, _ =>
            obtain rfl := Option.some.inj ho
            have d1 : b.eval (.tmp 114) = .bool true := hdep ⟨16, .data⟩ (by simp) rfl _ _ rfl rfl
            exact Rg.does_move rfl d1
          | 18, _ =>
            obtain rfl := Option.some.inj ho
            refine Rg.does_move rfl ?_
            exact r7
          | 19, _ =>
            obtain rfl := Option.some.inj ho
            refine Rg.does_move rfl ?_
            exact r0
          | 20, _ =>
            obtain rfl := Option.some.inj ho
            have d1 : b.eval (.tmp 116) = .slice (some ⟨B1, 0, none⟩) p.length (p.length + 6) := hdep ⟨18, .data⟩ (by simp) rfl _ _ rfl rfl
            have d2 : b.eval (.tmp 117) = .slice o p.length c := hdep ⟨19, .data⟩ (by simp) rfl _ _ rfl rfl
            refine Rg.does_fn rfl (enters_of Try.func20 (by kernel_rfl) rfl) (args := #[b.eval (.tmp 116), b.eval (.tmp 117)]) (by simp) ?_
            rw [d1, d2]
            refine (kept_any p B1 o c v (hM.later hb) (hRP.later hb) (by omega)).mono ?_
            rintro e v' ⟨rfl, h⟩
            exact ⟨_, rfl, rfl, h.below⟩
          | 21, _ =>
            obtain rfl := Option.some.inj ho
            have d1 : b.eval (.tmp 115) = .bool true := hdep ⟨17, .data⟩ (by simp) rfl _ _ rfl rfl
            have d2 : b.eval (.tmp 118) = .bool true := hdep ⟨20, .data⟩ (by simp) rfl _ _ rfl rfl
            exact Rg.does_pick rfl d1 d2
          | 22, _ =>
            obtain rfl := Option.some.inj ho
            have d1 : b.eval (.tmp 119) = .bool true := hdep ⟨21, .data⟩ (by simp) rfl _ _ rfl rfl
            exact Rg.does_move rfl d1
          | 23, _ =>
            obtain rfl := Option.some.inj ho
            refine Rg.does_move rfl ?_
            exact r8
          | 24, _ =>
            obtain rfl := Option.some.inj ho
            refine Rg.does_move rfl ?_
            exact r1
          | 25, _ =>
            obtain rfl := Option.some.inj ho
            have d1 : b.eval (.tmp 121) = .slice (some ⟨B2, 0, none⟩) q.length (q.length + 6) := hdep ⟨23, .data⟩ (by simp) rfl _ _ rfl rfl
            have d2 : b.eval (.tmp 122) = .slice o2 q.length c2 := hdep ⟨24, .data⟩ (by simp) rfl _ _ rfl rfl
            refine Rg.does_fn rfl (enters_of Try.func20 (by kernel_rfl) rfl) (args := #[b.eval (.tmp 121), b.eval (.tmp 122)]) (by simp) ?_
            rw [d1, d2]
            refine (kept_any q B2 o2 c2 v (hN.later hb) (hRQ.later hb) (by omega)).mono ?_
            rintro e v' ⟨rfl, h⟩
            exact ⟨_, rfl, rfl, h.below⟩
          | 26, _ =>
            obtain rfl := Option.some.inj ho
            have d1 : b.eval (.tmp 120) = .bool true := hdep ⟨22, .data⟩ (by simp) rfl _ _ rfl rfl
            have d2 : b.eval (.tmp 123) = .bool true := hdep ⟨25, .data⟩ (by simp) rfl _ _ rfl rfl
            exact Rg.does_pick rfl d1 d2
          | 27, _ =>
            obtain rfl := Option.some.inj ho
            have d1 : b.eval (.tmp 124) = .bool true := hdep ⟨26, .data⟩ (by simp) rfl _ _ rfl rfl
            exact Rg.does_assign rfl d1
          | n + 28, h => exact absurd h (by simp)
        case fin =>
          intro b v2 hb hs hd hrest hall
          have h4 : b.tmps.getD 6 undef = .bool true := hall 27 _ 6 rfl rfl
          have HB := Lib.hid (Kit.step HGV.out (Kit.step HB7.out hb))
          go_wp2
          refine bodyPost_ret (results_tmp rfl _ _ _) hd ?_
          exact ⟨by rw [h4], HB.out⟩
      · have ELO : Hid (lowN n p.length = p.length) := Lib.hid (by rw [ELO.out]; omega)
        have hpi : ¬ (0 : Int) < p.length := by omega
        go_wp2_with (at_make; refine wpList_make_full _ rfl _ _ 22 rfl v.heap.size 5 i0 (.int .u8 0) 1 Try.underlying22 hi hz0 hz1 _ _ _ _ (0) rfl rfl (by omega) (by omega) (by rw [hz2]; omega) (by unfold maxLen; omega) (Nat.le_refl _) ?_)
        intro w5 hown hgrow
        have hb5 : Below v.heap.size v w5 := (Below.refl _ _).grown hgrow (Nat.le_refl _) (fun k h => by cases h)
        obtain ⟨zs, hzs⟩ : ∃ zs : List UInt8, zs = List.replicate (0) 0 := ⟨_, rfl⟩
        have hzl : zs.length = 0 := by rw [hzs, List.length_replicate]
        have hzb : bytesV zs = List.replicate (0) (.int .u8 0) := by rw [hzs]; exact List.map_replicate
        have HOWN : Hid (w5.ownsRow v.heap.size 5 1 (.slice (some ⟨v.heap.size, 0, none⟩) (0) (0)) (0) (bytesV zs)) := Lib.hid (by
          rw [toList_madeCells_one, ← hzb] at hown; exact hown)
        have HZS : Hid (shiftL p (0) = zs ++ p) := Lib.hid (by rw [hzs]; rfl)
        have HZL := Lib.hid hzl
        clear hzs hzl hzb
        have HB5 := Lib.hid hb5
        have HP5 := Lib.hid (hRP.later hb5)
        clear hown hgrow hb5
        go_wp2_with (at_builtin; refine append_row rfl (.tmp 86) (.tmp 87) rfl v.heap.size _ (0) zs rfl HOWN.out o p.length c p rfl rfl HP5.out (by omega) HB5.out.size ?_)
        intro v6 w6 hv6 hg6
        have HB6 := Lib.hid (own_below (n := 0) HB5.out HOWN.out hg6)
        have h6 : RowV (shiftL p (0)) v6 w6 := by
          rw [HZS.out]; exact owns_rv hv6 (by rw [List.length_append, HZL.out]; try omega)
        have HR := Lib.hid (rtrim_rv h6 (by rw [HZS.out, List.length_append, HZL.out]; omega))
        clear hv6 hg6 h6
        go_wp2_with fail
        refine HR.out.mono ?_; rintro e w7 ⟨t12, rfl, hr7, hb7⟩
        have HB7 := Lib.hid (Kit.step HB6.out hb7)
        have HS := Lib.hid hr7
        clear hr7 hb7 HR
        go_wp2_with fail
        have hS : RowV (tr (shiftL p (shN n))) t12 w7 := by rw [ESH.out]; exact HS.out
        have hC : RowV (p.take (lowN n p.length)) (.slice o (p.length) c) w7 := by
          rw [ELO.out]; exact ⟨o, c, by simp; try omega, (hRP.later HB7.out).take _⟩
        have hA := hA.later HB7.out
        have hM := hM.later HB7.out
        have hN := hN.later HB7.out
        have hRP := hRP.later HB7.out
        have hRQ := hRQ.later HB7.out
        refine Rg.region_grow (by kernel_rfl) (LstG p q n o o2 c c2 B1 B2) (by kernel_rfl) LstG.later ?gd ?step ?fin
        case gd =>
          intro i op k t ho hg x v hG
          have hi := (Array.getElem?_eq_some_iff.1 ho).1
          match i, hi with
          | 0, _ =>
            obtain rfl := Option.some.inj ho
            cases hg
          | 1, _ =>
            obtain rfl := Option.some.inj ho
            cases hg
          | 2, _ =>
            obtain rfl := Option.some.inj ho
            cases hg
          | 3, _ =>
            obtain rfl := Option.some.inj ho
            cases hg
          | 4, _ =>
            obtain rfl := Option.some.inj ho
            cases hg
          | 5, _ =>
            obtain rfl := Option.some.inj ho
            cases hg
          | 6, _ =>
            obtain rfl := Option.some.inj ho
            cases hg
          | 7, _ =>
            obtain rfl := Option.some.inj ho
            cases hg
          | 8, _ =>
            obtain rfl := Option.some.inj ho
            obtain ⟨rfl, rfl⟩ : 7 = k ∧ true = t := by simpa using hg
            exact hG
          | 9, _ =>
            obtain rfl := Option.some.inj ho
            obtain ⟨rfl, rfl⟩ : 7 = k ∧ true = t := by simpa using hg
            exact hG
          | 10, _ =>
            obtain rfl := Option.some.inj ho
            obtain ⟨rfl, rfl⟩ : 7 = k ∧ true = t := by simpa using hg
            exact hG
          | 11, _ =>
            obtain rfl := Option.some.inj ho
            obtain ⟨rfl, rfl⟩ : 7 = k ∧ true = t := by simpa using hg
            exact hG
          | 12, _ =>
            obtain rfl := Option.some.inj ho
            obtain ⟨rfl, rfl⟩ : 7 = k ∧ true = t := by simpa using hg
            exact hG
          | 13, _ =>
            obtain rfl := Option.some.inj ho
            obtain ⟨rfl, rfl⟩ : 7 = k ∧ true = t := by simpa using hg
            exact hG
          | 14, _ =>
            obtain rfl := Option.some.inj ho
            obtain ⟨rfl, rfl⟩ : 7 = k ∧ true = t := by simpa using hg
            exact hG
          | 15, _ =>
            obtain rfl := Option.some.inj ho
            obtain ⟨rfl, rfl⟩ : 7 = k ∧ true = t := by simpa using hg
            exact hG
          | 16, _ =>
            obtain rfl := Option.some.inj ho
            cases hg
          | 17, _ =>
            obtain rfl := Option.some.inj ho
            cases hg
          | 18, _ =>
            obtain rfl := Option.some.inj ho
            obtain ⟨rfl, rfl⟩ : 17 = k ∧ true = t := by simpa using hg
            exact hG
          | 19, _ =>
            obtain rfl := Option.some.inj ho
            obtain ⟨rfl, rfl⟩ : 17 = k ∧ true = t := by simpa using hg
            exact hG
          | 20, _ =>
            obtain rfl := Option.some.inj ho
            obtain ⟨rfl, rfl⟩ : 17 = k ∧ true = t := by simpa using hg
            exact hG
          | 21, _ =>
            obtain rfl := Option.some.inj ho
            cases hg
          | 22, _ =>
            obtain rfl := Option.some.inj ho
            cases hg
          | 23, _ =>
            obtain rfl := Option.some.inj ho
            obtain ⟨rfl, rfl⟩ : 22 = k ∧ true = t := by simpa using hg
            exact hG
          | 24, _ =>
            obtain rfl := Option.some.inj ho
            obtain ⟨rfl, rfl⟩ : 22 = k ∧ true = t := by simpa using hg
            exact hG
          | 25, _ =>
            obtain rfl := Option.some.inj ho
            obtain ⟨rfl, rfl⟩ : 22 = k ∧ true = t := by simpa using hg
            exact hG
          | 26, _ =>
            obtain rfl := Option.some.inj ho
            cases hg
          | 27, _ =>
            obtain rfl := Option.some.inj ho
            cases hg
          | n + 28, h => exact absurd h (by simp)
        case step =>
          intro i op b v ho hb hrest hdep
          have r0 : b.eval (.tmp 0) = .slice o p.length c := hrest 0 (Rg.free_spec (by kernel_rfl))
          have r1 : b.eval (.tmp 1) = .slice o2 q.length c2 := hrest 1 (Rg.free_spec (by kernel_rfl))
          have r2 : b.eval (.tmp 2) = .int .i64 n := hrest 2 (Rg.free_spec (by kernel_rfl))
          have r7 : b.eval (.tmp 7) = .slice (some ⟨B1, 0, none⟩) p.length (p.length + 6) := hrest 7 (Rg.free_spec (by kernel_rfl))
          have r8 : b.eval (.tmp 8) = .slice (some ⟨B2, 0, none⟩) q.length (q.length + 6) := hrest 8 (Rg.free_spec (by kernel_rfl))
          have r12 : b.eval (.tmp 12) = t12 := hrest 12 (Rg.free_spec (by kernel_rfl))
          have r13 : b.eval (.tmp 13) = .slice o (p.length) c := hrest 13 (Rg.free_spec (by kernel_rfl))
          have hi := (Array.getElem?_eq_some_iff.1 ho).1
          match i, hi with
          | 0, _ =>
            obtain rfl := Option.some.inj ho
            refine Rg.does_move rfl ?_
            rw [r7]; exact hA.later hb
          | 1, _ =>
            obtain rfl := Option.some.inj ho
            refine Rg.does_move rfl ?_
            rw [r2]; rfl
          | 2, _ =>
            obtain rfl := Option.some.inj ho
            have d1 : RowV (p) (b.eval (.tmp 98)) v := hdep ⟨0, .data⟩ (by simp) rfl _ _ rfl rfl
            have d2 : b.eval (.tmp 99) = .int .i64 n := hdep ⟨1, .data⟩ (by simp) rfl _ _ rfl rfl
            obtain ⟨o3, c3, e3, hr3⟩ := d1
            refine Rg.does_fn rfl (enters_of Try.func18 (by kernel_rfl) rfl) (args := #[b.eval (.tmp 98), b.eval (.tmp 99)]) (by simp) ?_
            rw [e3, d2]
            exact shift_any p n o3 c3 v hr3 (by omega)
          | 3, _ =>
            obtain rfl := Option.some.inj ho
            have d1 : RowV (tr (shiftL p (shN n))) (b.eval (.tmp 100)) v := hdep ⟨2, .data⟩ (by simp) rfl _ _ rfl rfl
            exact Rg.does_conv rfl (conv_rv d1) (rfl)
          | 4, _ =>
            obtain rfl := Option.some.inj ho
            refine Rg.does_move rfl ?_
            rw [r12]; exact hS.later hb
          | 5, _ =>
            obtain rfl := Option.some.inj ho
            have d1 : RowV (tr (shiftL p (shN n))) (b.eval (.tmp 102)) v := hdep ⟨4, .data⟩ (by simp) rfl _ _ rfl rfl
            exact Rg.does_conv rfl (conv_rv d1) (rfl)
          | 6, _ =>
            obtain rfl := Option.some.inj ho
            have d1 : (b.eval (.tmp 101)) = .string ⟨(tr (shiftL p (shN n))).toArray⟩ := hdep ⟨3, .data⟩ (by simp) rfl _ _ rfl rfl
            have d2 : (b.eval (.tmp 103)) = .string ⟨(tr (shiftL p (shN n))).toArray⟩ := hdep ⟨5, .data⟩ (by simp) rfl _ _ rfl rfl
            have f1 : b.tmps[101]?.getD undef = _ := (show _ = b.eval (.tmp 101) by simp [Act.eval]).trans d1
            have f2 : b.tmps[103]?.getD undef = _ := (show _ = b.eval (.tmp 103) by simp [Act.eval]).trans d2
            refine Rg.does_pure (.bool true) ?_ rfl
            have hu := Try.underlying9
            simp only [execOp]
            go_simp
          | 7, _ =>
            obtain rfl := Option.some.inj ho
            have d1 : b.eval (.tmp 104) = .bool true := hdep ⟨6, .data⟩ (by simp) rfl _ _ rfl rfl
            exact Rg.does_move rfl d1
          | 8, _ =>
            obtain rfl := Option.some.inj ho
            refine Rg.does_move rfl ?_
            rw [r7]; exact hA.later hb
          | 9, _ =>
            obtain rfl := Option.some.inj ho
            refine Rg.does_move rfl ?_
            rw [r2]; rfl
          | 10, _ =>
            obtain rfl := Option.some.inj ho
            have d1 : RowV (p) (b.eval (.tmp 106)) v := hdep ⟨8, .data⟩ (by simp) rfl _ _ rfl rfl
            have d2 : b.eval (.tmp 107) = .int .i64 n := hdep ⟨9, .data⟩ (by simp) rfl _ _ rfl rfl
            obtain ⟨o3, c3, e3, hr3⟩ := d1
            refine Rg.does_fn rfl (enters_of Try.func19 (by kernel_rfl) rfl) (args := #[b.eval (.tmp 106), b.eval (.tmp 107)]) (by simp) ?_
            rw [e3, d2]
            exact low_any p n o3 c3 v hr3 (by omega)
          | 11, _ =>
            obtain rfl := Option.some.inj ho
            have d1 : RowV (tr (p.take (lowN n p.length))) (b.eval (.tmp 108)) v := hdep ⟨10, .data⟩ (by simp) rfl _ _ rfl rfl
            exact Rg.does_conv rfl (conv_rv d1) (rfl)
          | 12, _ =>
            obtain rfl := Option.some.inj ho
            refine Rg.does_move rfl ?_
            rw [r13]; exact hC.later hb
          | 13, _ =>
            obtain rfl := Option.some.inj ho
            have d1 : RowV (p.take (lowN n p.length)) (b.eval (.tmp 110)) v := hdep ⟨12, .data⟩ (by simp) rfl _ _ rfl rfl
            exact Rg.does_fn rfl (enters_of Try.func10 (by kernel_rfl) rfl) (args := #[b.eval (.tmp 110)]) (by simp) (rtrim_rv d1 (by simp; omega))
          | 14, _ =>
            obtain rfl := Option.some.inj ho
            have d1 : RowV (tr (p.take (lowN n p.length))) (b.eval (.tmp 111)) v := hdep ⟨13, .data⟩ (by simp) rfl _ _ rfl rfl
            exact Rg.does_conv rfl (conv_rv d1) (rfl)
          | 15, _ =>
            obtain rfl := Option.some.inj ho
            have d1 : (b.eval (.tmp 109)) = .string ⟨(tr (p.take (lowN n p.length))).toArray⟩ := hdep ⟨11, .data⟩ (by simp) rfl _ _ rfl rfl
            have d2 : (b.eval (.tmp 112)) = .string ⟨(tr (p.take (lowN n p.length))).toArray⟩ := hdep ⟨14, .data⟩ (by simp) rfl _ _ rfl rfl
            have f1 : b.tmps[109]?.getD undef = _ := (show _ = b.eval (.tmp 109) by simp [Act.eval]).trans d1
            have f2 : b.tmps[112]?.getD undef = _ := (show _ = b.eval (.tmp 112) by simp [Act.eval]).trans d2
            refine Rg.does_pure (.bool true) ?_ rfl
            have hu := Try.underlying9
            simp only [execOp]
            go_simp
          | 16, _ =>
            obtain rfl := Option.some.inj ho
            have d1 : b.eval (.tmp 105) = .bool true := hdep ⟨7, .data⟩ (by simp) rfl _ _ rfl rfl
            have d2 : b.eval (.tmp 113) = .bool true := hdep ⟨15, .data⟩ (by simp) rfl _ _ rfl rfl
            exact Rg.does_pick rfl d1 d2
          | 17, _ =>
            obtain rfl := Option.some.inj ho
            have d1 : b.eval (.tmp 114) = .bool true := hdep ⟨16, .data⟩ (by simp) rfl _ _ rfl rfl
            exact Rg.does_move rfl d1
          | 18, _ =>
            obtain rfl := Option.some.inj ho
            refine Rg.does_move rfl ?_
            exact r7
          | 19, _ =>
            obtain rfl := Option.some.inj ho
            refine Rg.does_move rfl ?_
            exact r0
          | 20, _ =>
            obtain rfl := Option.some.inj ho
            have d1 : b.eval (.tmp 116) = .slice (some ⟨B1, 0, none⟩) p.length (p.length + 6) := hdep ⟨18, .data⟩ (by simp) rfl _ _ rfl rfl
            have d2 : b.eval (.tmp 117) = .slice o p.length c := hdep ⟨19, .data⟩ (by simp) rfl _ _ rfl rfl
            refine Rg.does_fn rfl (enters_of Try.func20 (by kernel_rfl) rfl) (args := #[b.eval (.tmp 116), b.eval (.tmp 117)]) (by simp) ?_
            rw [d1, d2]
            refine (kept_any p B1 o c v (hM.later hb) (hRP.later hb) (by omega)).mono ?_
            rintro e v' ⟨rfl, h⟩
            exact ⟨_, rfl, rfl, h.below⟩
          | 21, _ =>
            obtain rfl := Option.some.inj ho
            have d1 : b.eval (.tmp 115) = .bool true := hdep ⟨17, .data⟩ (by simp) rfl _ _ rfl rfl
            have d2 : b.eval (.tmp 118) = .bool true := hdep ⟨20, .data⟩ (by simp) rfl _ _ rfl rfl
            exact Rg.does_pick rfl d1 d2
          | 22, _ =>
            obtain rfl := Option.some.inj ho
            have d1 : b.eval (.tmp 119) = .bool true := hdep ⟨21, .data⟩ (by simp) rfl _ _ rfl rfl
            exact Rg.does_move rfl d1
          | 23, _ =>
            obtain rfl := Option.some.inj ho
            refine Rg.does_move rfl ?_
            exact r8
          | 24, _ =>
            obtain rfl := Option.some.inj ho
            refine Rg.does_move rfl ?_
            exact r1
          | 25, _ =>
            obtain rfl := Option.some.inj ho
            have d1 : b.eval (.tmp 121) = .slice (some ⟨B2, 0, none⟩) q.length (q.length + 6) := hdep ⟨23, .data⟩ (by simp) rfl _ _ rfl rfl
            have d2 : b.eval (.tmp 122) = .slice o2 q.length c2 := hdep ⟨24, .data⟩ (by simp) rfl _ _ rfl rfl
            refine Rg.does_fn rfl (enters_of Try.func20 (by kernel_rfl) rfl) (args := #[b.eval (.tmp 121), b.eval (.tmp 122)]) (by simp) ?_
            rw [d1, d2]
            refine (kept_any q B2 o2 c2 v (hN.later hb) (hRQ.later hb) (by omega)).mono ?_
            rintro e v' ⟨rfl, h⟩
            exact ⟨_, rfl, rfl, h.below⟩
          | 26, _ =>
            obtain rfl := Option.some.inj ho
            have d1 : b.eval (.tmp 120) = .bool true := hdep ⟨22, .data⟩ (by simp) rfl _ _ rfl rfl
            have d2 : b.eval (.tmp 123) = .bool true := hdep ⟨25, .data⟩ (by simp) rfl _ _ rfl rfl
            exact Rg.does_pick rfl d1 d2
          | 27, _ =>
            obtain rfl := Option.some.inj ho
            have d1 : b.eval (.tmp 124) = .bool true := hdep ⟨26, .data⟩ (by simp) rfl _ _ rfl rfl
            exact Rg.does_assign rfl d1
          | n + 28, h => exact absurd h (by simp)
        case fin =>
          intro b v2 hb hs hd hrest hall
          have h4 : b.tmps.getD 6 undef = .bool true := hall 27 _ 6 rfl rfl
          have HB := Lib.hid (Kit.step HGV.out (Kit.step HB7.out hb))
          go_wp2
          refine bodyPost_ret (results_tmp rfl _ _ _) hd ?_
          exact ⟨by rw [h4], HB.out⟩
    · by_cases hm : 1000 < n
      · have ESH : Hid (shN n = 1000) := Lib.hid (by unfold shN; rw [if_neg hn, if_pos hm])
        have ELO : Hid (lowN n p.length = p.length) := Lib.hid (by unfold lowN; rw [if_neg hn, if_pos (by omega)])
        have hpi : ¬ (1000 : Int) < p.length := by omega
        go_wp2_with (at_make; refine wpList_make_full _ rfl _ _ 22 rfl v.heap.size 5 i0 (.int .u8 0) 1 Try.underlying22 hi hz0 hz1 _ _ _ _ (1000) rfl rfl (by omega) (by omega) (by rw [hz2]; omega) (by unfold maxLen; omega) (Nat.le_refl _) ?_)
        intro w5 hown hgrow
        have hb5 : Below v.heap.size v w5 := (Below.refl _ _).grown hgrow (Nat.le_refl _) (fun k h => by cases h)
        obtain ⟨zs, hzs⟩ : ∃ zs : List UInt8, zs = List.replicate (1000) 0 := ⟨_, rfl⟩
        have hzl : zs.length = 1000 := by rw [hzs, List.length_replicate]
        have hzb : bytesV zs = List.replicate (1000) (.int .u8 0) := by rw [hzs]; exact List.map_replicate
        have HOWN : Hid (w5.ownsRow v.heap.size 5 1 (.slice (some ⟨v.heap.size, 0, none⟩) (1000) (1000)) (1000) (bytesV zs)) := Lib.hid (by
          rw [toList_madeCells_one, ← hzb] at hown; exact hown)
        have HZS : Hid (shiftL p (1000) = zs ++ p) := Lib.hid (by rw [hzs]; rfl)
        have HZL := Lib.hid hzl
        clear hzs hzl hzb
        have HB5 := Lib.hid hb5
        have HP5 := Lib.hid (hRP.later hb5)
        clear hown hgrow hb5
        go_wp2_with (at_builtin; refine append_row rfl (.tmp 86) (.tmp 87) rfl v.heap.size _ (1000) zs rfl HOWN.out o p.length c p rfl rfl HP5.out (by omega) HB5.out.size ?_)
        intro v6 w6 hv6 hg6
        have HB6 := Lib.hid (own_below (n := 0) HB5.out HOWN.out hg6)
        have h6 : RowV (shiftL p (1000)) v6 w6 := by
          rw [HZS.out]; exact owns_rv hv6 (by rw [List.length_append, HZL.out]; try omega)
        have HR := Lib.hid (rtrim_rv h6 (by rw [HZS.out, List.length_append, HZL.out]; omega))
        clear hv6 hg6 h6
        go_wp2_with fail
        refine HR.out.mono ?_; rintro e w7 ⟨t12, rfl, hr7, hb7⟩
        have HB7 := Lib.hid (Kit.step HB6.out hb7)
        have HS := Lib.hid hr7
        clear hr7 hb7 HR
        go_wp2_with fail
        have hS : RowV (tr (shiftL p (shN n))) t12 w7 := by rw [ESH.out]; exact HS.out
        have hC : RowV (p.take (lowN n p.length)) (.slice o (p.length) c) w7 := by
          rw [ELO.out]; exact ⟨o, c, by simp; try omega, (hRP.later HB7.out).take _⟩
        have hA := hA.later HB7.out
        have hM := hM.later HB7.out
        have hN := hN.later HB7.out
        have hRP := hRP.later HB7.out
        have hRQ := hRQ.later HB7.out
        refine Rg.region_grow (by kernel_rfl) (LstG p q n o o2 c c2 B1 B2) (by kernel_rfl) LstG.later ?gd ?step ?fin
        case gd =>
          intro i op k t ho hg x v hG
          have hi := (Array.getElem?_eq_some_iff.1 ho).1
          match i, hi with
          | 0, _ =>
            obtain rfl := Option.some.inj ho
            cases hg
          | 1, _ =>
            obtain rfl := Option.some.inj ho
            cases hg
          | 2, _ =>
            obtain rfl := Option.some.inj ho
            cases hg
          | 3, _ =>
            obtain rfl := Option.some.inj ho
            cases hg
          | 4, _ =>
            obtain rfl := Option.some.inj ho
            cases hg
          | 5, _ =>
            obtain rfl := Option.some.inj ho
            cases hg
          | 6, _ =>
            obtain rfl := Option.some.inj ho
            cases hg
          | 7, _ =>
            obtain rfl := Option.some.inj ho
            cases hg
          | 8, _ =>
            obtain rfl := Option.some.inj ho
            obtain ⟨rfl, rfl⟩ : 7 = k ∧ true = t := by simpa using hg
            exact hG
          | 9, _ =>
            obtain rfl := Option.some.inj ho
            obtain ⟨rfl, rfl⟩ : 7 = k ∧ true = t := by simpa using hg
            exact hG
          | 10, _ =>
            obtain rfl := Option.some.inj ho
            obtain ⟨rfl, rfl⟩ : 7 = k ∧ true = t := by simpa using hg
            exact hG
          | 11, _ =>
            obtain rfl := Option.some.inj ho
            obtain ⟨rfl, rfl⟩ : 7 = k ∧ true = t := by simpa using hg
            exact hG
          | 12, _ =>
            obtain rfl := Option.some.inj ho
            obtain ⟨rfl, rfl⟩ : 7 = k ∧ true = t := by simpa using hg
            exact hG
          | 13, _ =>
            obtain rfl := Option.some.inj ho
            obtain ⟨rfl, rfl⟩ : 7 = k ∧ true = t := by simpa using hg
            exact hG
          | 14, _ =>
            obtain rfl := Option.some.inj ho
            obtain ⟨rfl, rfl⟩ : 7 = k ∧ true = t := by simpa using hg
            exact hG
          | 15, _ =>
            obtain rfl := Option.some.inj ho
            obtain ⟨rfl, rfl⟩ : 7 = k ∧ true = t := by simpa using hg
            exact hG
          | 16, _ =>
            obtain rfl := Option.some.inj ho
            cases hg
          | 17, _ =>
            obtain rfl := Option.some.inj ho
            cases hg
          | 18, _ =>
            obtain rfl := Option.some.inj ho
            obtain ⟨rfl, rfl⟩ : 17 = k ∧ true = t := by simpa using hg
            exact hG
          | 19, _ =>
            obtain rfl := Option.some.inj ho
            obtain ⟨rfl, rfl⟩ : 17 = k ∧ true = t := by simpa using hg
            exact hG
          | 20, _ =>
            obtain rfl := Option.some.inj ho
            obtain ⟨rfl, rfl⟩ : 17 = k ∧ true = t := by simpa using hg
            exact hG
          | 21, _ =>
            obtain rfl := Option.some.inj ho
            cases hg
          | 22, _ =>
            obtain rfl := Option.some.inj ho
            cases hg
          | 23, _ =>
            obtain rfl := Option.some.inj ho
            obtain ⟨rfl, rfl⟩ : 22 = k ∧ true = t := by simpa using hg
            exact hG
          | 24, _ =>
            obtain rfl := Option.some.inj ho
            obtain ⟨rfl, rfl⟩ : 22 = k ∧ true = t := by simpa using hg
            exact hG
          | 25, _ =>
            obtain rfl := Option.some.inj ho
            obtain ⟨rfl, rfl⟩ : 22 = k ∧ true = t := by simpa using hg
            exact hG
          | 26, _ =>
            obtain rfl := Option.some.inj ho
            cases hg
          | 27, _ =>
            obtain rfl := Option.some.inj ho
            cases hg
          | n + 28, h => exact absurd h (by simp)
        case step =>
          intro i op b v ho hb hrest hdep
          have r0 : b.eval (.tmp 0) = .slice o p.length c := hrest 0 (Rg.free_spec (by kernel_rfl))
          have r1 : b.eval (.tmp 1) = .slice o2 q.length c2 := hrest 1 (Rg.free_spec (by kernel_rfl))
          have r2 : b.eval (.tmp 2) = .int .i64 n := hrest 2 (Rg.free_spec (by kernel_rfl))
          have r7 : b.eval (.tmp 7) = .slice (some ⟨B1, 0, none⟩) p.length (p.length + 6) := hrest 7 (Rg.free_spec (by kernel_rfl))
          have r8 : b.eval (.tmp 8) = .slice (some ⟨B2, 0, none⟩) q.length (q.length + 6) := hrest 8 (Rg.free_spec (by kernel_rfl))
          have r12 : b.eval (.tmp 12) = t12 := hrest 12 (Rg.free_spec (by kernel_rfl))
          have r13 : b.eval (.tmp 13) = .slice o (p.length) c := hrest 13 (Rg.free_spec (by kernel_rfl))
          have hi := (Array.getElem?_eq_some_iff.1 ho).1
          match i, hi with
          | 0, _ =>
            obtain rfl := Option.some.inj ho
            refine Rg.does_move rfl ?_
            rw [r7]; exact hA.later hb
          | 1, _ =>
            obtain rfl := Option.some.inj ho
            refine Rg.does_move rfl ?_
            rw [r2]; rfl
          | 2, _ =>
            obtain rfl := Option.some.inj ho
            have d1 : RowV (p) (b.eval (.tmp 98)) v := hdep ⟨0, .data⟩ (by simp) rfl _ _ rfl rfl
            have d2 : b.eval (.tmp 99) = .int .i64 n := hdep ⟨1, .data⟩ (by simp) rfl _ _ rfl rfl
            obtain ⟨o3, c3, e3, hr3⟩ := d1
            refine Rg.does_fn rfl (enters_of Try.func18 (by kernel_rfl) rfl) (args := #[b.eval (.tmp 98), b.eval (.tmp 99)]) (by simp) ?_
            rw [e3, d2]
            exact shift_any p n o3 c3 v hr3 (by omega)
          | 3, _ =>
            obtain rfl := Option.some.inj ho
            have d1 : RowV (tr (shiftL p (shN n))) (b.eval (.tmp 100)) v := hdep ⟨2, .data⟩ (by simp) rfl _ _ rfl rfl
            exact Rg.does_conv rfl (conv_rv d1) (rfl)
          | 4, _ =>
            obtain rfl := Option.some.inj ho
            refine Rg.does_move rfl ?_
            rw [r12]; exact hS.later hb
          | 5, _ =>
            obtain rfl := Option.some.inj ho
            have d1 : RowV (tr (shiftL p (shN n))) (b.eval (.tmp 102)) v := hdep ⟨4, .data⟩ (by simp) rfl _ _ rfl rfl
            exact Rg.does_conv rfl (conv_rv d1) (rfl)
          | 6, _ =>
            obtain rfl := Option.some.inj ho
            have d1 : (b.eval (.tmp 101)) = .string ⟨(tr (shiftL p (shN n))).toArray⟩ := hdep ⟨3, .data⟩ (by simp) rfl _ _ rfl rfl
            have d2 : (b.eval (.tmp 103)) = .string ⟨(tr (shiftL p (shN n))).toArray⟩ := hdep ⟨5, .data⟩ (by simp) rfl _ _ rfl rfl
            have f1 : b.tmps[101]?.getD undef = _ := (show _ = b.eval (.tmp 101) by simp [Act.eval]).trans d1
            have f2 : b.tmps[103]?.getD undef = _ := (show _ = b.eval (.tmp 103) by simp [Act.eval]).trans d2
            refine Rg.does_pure (.bool true) ?_ rfl
            have hu := Try.underlying9
            simp only [execOp]
            go_simp
          | 7, _ =>
            obtain rfl := Option.some.inj ho
            have d1 : b.eval (.tmp 104) = .bool true := hdep ⟨6, .data⟩ (by simp) rfl _ _ rfl rfl
            exact Rg.does_move rfl d1
          | 8, _ =>
            obtain rfl := Option.some.inj ho
            refine Rg.does_move rfl ?_
            rw [r7]; exact hA.later hb
          | 9, _ =>
            obtain rfl := Option.some.inj ho
            refine Rg.does_move rfl ?_
            rw [r2]; rfl
          | 10, _ =>
            obtain rfl := Option.some.inj ho
            have d1 : RowV (p) (b.eval (.tmp 106)) v := hdep ⟨8, .data⟩ (by simp) rfl _ _ rfl rfl
            have d2 : b.eval (.tmp 107) = .int .i64 n := hdep ⟨9, .data⟩ (by simp) rfl _ _ rfl rfl
            obtain ⟨o3, c3, e3, hr3⟩ := d1
            refine Rg.does_fn rfl (enters_of Try.func19 (by kernel_rfl) rfl) (args := #[b.eval (.tmp 106), b.eval (.tmp 107)]) (by simp) ?_
            rw [e3, d2]
            exact low_any p n o3 c3 v hr3 (by omega)
          | 11, _ =>
            obtain rfl := Option.some.inj ho
            have d1 : RowV (tr (p.take (lowN n p.length))) (b.eval (.tmp 108)) v := hdep ⟨10, .data⟩ (by simp) rfl _ _ rfl rfl
            exact Rg.does_conv rfl (conv_rv d1) (rfl)
          | 12, _ =>
            obtain rfl := Option.some.inj ho
            refine Rg.does_move rfl ?_
            rw [r13]; exact hC.later hb
          | 13, _ =>
            obtain rfl := Option.some.inj ho
            have d1 : RowV (p.take (lowN n p.length)) (b.eval (.tmp 110)) v := hdep ⟨12, .data⟩ (by simp) rfl _ _ rfl rfl
            exact Rg.does_fn rfl (enters_of Try.func10 (by kernel_rfl) rfl) (args := #[b.eval (.tmp 110)]) (by simp) (rtrim_rv d1 (by simp; omega))
          | 14, _ =>
            obtain rfl := Option.some.inj ho
            have d1 : RowV (tr (p.take (lowN n p.length))) (b.eval (.tmp 111)) v := hdep ⟨13, .data⟩ (by simp) rfl _ _ rfl rfl
            exact Rg.does_conv rfl (conv_rv d1) (rfl)
          | 15, _ =>
            obtain rfl := Option.some.inj ho
            have d1 : (b.eval (.tmp 109)) = .string ⟨(tr (p.take (lowN n p.length))).toArray⟩ := hdep ⟨11, .data⟩ (by simp) rfl _ _ rfl rfl
            have d2 : (b.eval (.tmp 112)) = .string ⟨(tr (p.take (lowN n p.length))).toArray⟩ := hdep ⟨14, .data⟩ (by simp) rfl _ _ rfl rfl
            have f1 : b.tmps[109]?.getD undef = _ := (show _ = b.eval (.tmp 109) by simp [Act.eval]).trans d1
            have f2 : b.tmps[112]?.getD undef = _ := (show _ = b.eval (.tmp 112) by simp [Act.eval]).trans d2
            refine Rg.does_pure (.bool true) ?_ rfl
            have hu := Try.underlying9
            simp only [execOp]
            go_simp
          | 16, _ =>
            obtain rfl := Option.some.inj ho
            have d1 : b.eval (.tmp 105) = .bool true := hdep ⟨7, .data⟩ (by simp) rfl _ _ rfl rfl
            have d2 : b.eval (.tmp 113) = .bool true := hdep ⟨15, .data⟩ (by simp) rfl _ _ rfl rfl
            exact Rg.does_pick rfl d1 d2
          | 17, _ =>
            obtain rfl := Option.some.inj ho
            have d1 : b.eval (.tmp 114) = .bool true := hdep ⟨16, .data⟩ (by simp) rfl _ _ rfl rfl
            exact Rg.does_move rfl d1
          | 18, _ =>
            obtain rfl := Option.some.inj ho
            refine Rg.does_move rfl ?_
            exact r7
          | 19, _ =>
            obtain rfl := Option.some.inj ho
            refine Rg.does_move rfl ?_
            exact r0
          | 20, _ =>
            obtain rfl := Option.some.inj ho
            have d1 : b.eval (.tmp 116) = .slice (some ⟨B1, 0, none⟩) p.length (p.length + 6) := hdep ⟨18, .data⟩ (by simp) rfl _ _ rfl rfl
            have d2 : b.eval (.tmp 117) = .slice o p.length c := hdep ⟨19, .data⟩ (by simp) rfl _ _ rfl rfl
            refine Rg.does_fn rfl (enters_of Try.func20 (by kernel_rfl) rfl) (args := #[b.eval (.tmp 116), b.eval (.tmp 117)]) (by simp) ?_
            rw [d1, d2]
            refine (kept_any p B1 o c v (hM.later hb) (hRP.later hb) (by omega)).mono ?_
            rintro e v' ⟨rfl, h⟩
            exact ⟨_, rfl, rfl, h.below⟩
          | 21, _ =>
            obtain rfl := Option.some.inj ho
            have d1 : b.eval (.tmp 115) = .bool true := hdep ⟨17, .data⟩ (by simp) rfl _ _ rfl rfl
            have d2 : b.eval (.tmp 118) = .bool true := hdep ⟨20, .data⟩ (by simp) rfl _ _ rfl rfl
            exact Rg.does_pick rfl d1 d2
          | 22, _ =>
            obtain rfl := Option.some.inj ho
            have d1 : b.eval (.tmp 119) = .bool true := hdep ⟨21, .data⟩ (by simp) rfl _ _ rfl rfl
            exact Rg.does_move rfl d1
          | 23, _ =>
            obtain rfl := Option.some.inj ho
            refine Rg.does_move rfl ?_
            exact r8
          | 24, _ =>
            obtain rfl := Option.some.inj ho
            refine Rg.does_move rfl ?_
            exact r1
          | 25, _ =>
            obtain rfl := Option.some.inj ho
            have d1 : b.eval (.tmp 121) = .slice (some ⟨B2, 0, none⟩) q.length (q.length + 6) := hdep ⟨23, .data⟩ (by simp) rfl _ _ rfl rfl
            have d2 : b.eval (.tmp 122) = .slice o2 q.length c2 := hdep ⟨24, .data⟩ (by simp) rfl _ _ rfl rfl
            refine Rg.does_fn rfl (enters_of Try.func20 (by kernel_rfl) rfl) (args := #[b.eval (.tmp 121), b.eval (.tmp 122)]) (by simp) ?_
            rw [d1, d2]
            refine (kept_any q B2 o2 c2 v (hN.later hb) (hRQ.later hb) (by omega)).mono ?_
            rintro e v' ⟨rfl, h⟩
            exact ⟨_, rfl, rfl, h.below⟩
          | 26, _ =>
            obtain rfl := Option.some.inj ho
            have d1 : b.eval (.tmp 120) = .bool true := hdep ⟨22, .data⟩ (by simp) rfl _ _ rfl rfl
            have d2 : b.eval (.tmp 123) = .bool true := hdep ⟨25, .data⟩ (by simp) rfl _ _ rfl rfl
            exact Rg.does_pick rfl d1 d2
          | 27, _ =>
            obtain rfl := Option.some.inj ho
            have d1 : b.eval (.tmp 124) = .bool true := hdep ⟨26, .data⟩ (by simp) rfl _ _ rfl rfl
            exact Rg.does_assign rfl d1
          | n + 28, h => exact absurd h (by simp)
        case fin =>
          intro b v2 hb hs hd hrest hall
          have h4 : b.tmps.getD 6 undef = .bool true := hall 27 _ 6 rfl rfl
          have HB := Lib.hid (Kit.step HGV.out (Kit.step HB7.out hb))
          go_wp2
          refine bodyPost_ret (results_tmp rfl _ _ _) hd ?_
          exact ⟨by rw [h4], HB.out⟩
      · obtain ⟨k, rfl⟩ := Int.eq_ofNat_of_zero_le (show 0 ≤ n by omega)
        have ESH : Hid (shN (k : Int) = k) := Lib.hid (by unfold shN; rw [if_neg hn, if_neg hm]; rfl)
        have hk : k ≤ 1000 := by omega
        by_cases hpl : k < p.length
        · have ELO : Hid (lowN (k : Int) p.length = k) := Lib.hid (by unfold lowN; rw [if_neg hn, if_neg (by omega)]; rfl)
          have hpi : (k : Int) < p.length := by omega
          go_wp2_with (at_make; refine wpList_make_full _ rfl _ _ 22 rfl v.heap.size 5 i0 (.int .u8 0) 1 Try.underlying22 hi hz0 hz1 _ _ _ _ (k) rfl rfl (by omega) (by omega) (by rw [hz2]; omega) (by unfold maxLen; omega) (Nat.le_refl _) ?_)
          intro w5 hown hgrow
          have hb5 : Below v.heap.size v w5 := (Below.refl _ _).grown hgrow (Nat.le_refl _) (fun k h => by cases h)
          obtain ⟨zs, hzs⟩ : ∃ zs : List UInt8, zs = List.replicate (k) 0 := ⟨_, rfl⟩
          have hzl : zs.length = k := by rw [hzs, List.length_replicate]
          have hzb : bytesV zs = List.replicate (k) (.int .u8 0) := by rw [hzs]; exact List.map_replicate
          have HOWN : Hid (w5.ownsRow v.heap.size 5 1 (.slice (some ⟨v.heap.size, 0, none⟩) (k) (k)) (k) (bytesV zs)) := Lib.hid (by
            rw [toList_madeCells_one, ← hzb] at hown; exact hown)
          have HZS : Hid (shiftL p (k) = zs ++ p) := Lib.hid (by rw [hzs]; rfl)
          have HZL := Lib.hid hzl
          clear hzs hzl hzb
          have HB5 := Lib.hid hb5
          have HP5 := Lib.hid (hRP.later hb5)
          clear hown hgrow hb5
          go_wp2_with (at_builtin; refine append_row rfl (.tmp 86) (.tmp 87) rfl v.heap.size _ (k) zs rfl HOWN.out o p.length c p rfl rfl HP5.out (by omega) HB5.out.size ?_)
          intro v6 w6 hv6 hg6
          have HB6 := Lib.hid (own_below (n := 0) HB5.out HOWN.out hg6)
          have h6 : RowV (shiftL p (k)) v6 w6 := by
            rw [HZS.out]; exact owns_rv hv6 (by rw [List.length_append, HZL.out]; try omega)
          have HR := Lib.hid (rtrim_rv h6 (by rw [HZS.out, List.length_append, HZL.out]; omega))
          clear hv6 hg6 h6
          go_wp2_with fail
          refine HR.out.mono ?_; rintro e w7 ⟨t12, rfl, hr7, hb7⟩
          have HB7 := Lib.hid (Kit.step HB6.out hb7)
          have HS := Lib.hid hr7
          clear hr7 hb7 HR
          go_wp2_with fail
          have hS : RowV (tr (shiftL p (shN (k : Int)))) t12 w7 := by rw [ESH.out]; exact HS.out
          have hC : RowV (p.take (lowN (k : Int) p.length)) (.slice o (k) c) w7 := by
            rw [ELO.out]; exact ⟨o, c, by simp; try omega, (hRP.later HB7.out).take _⟩
          have hA := hA.later HB7.out
          have hM := hM.later HB7.out
          have hN := hN.later HB7.out
          have hRP := hRP.later HB7.out
          have hRQ := hRQ.later HB7.out
          refine Rg.region_grow (by kernel_rfl) (LstG p q (k : Int) o o2 c c2 B1 B2) (by kernel_rfl) LstG.later ?gd ?step ?fin
          case gd =>
            intro i op k t ho hg x v hG
            have hi := (Array.getElem?_eq_some_iff.1 ho).1
            match i, hi with
            | 0, _ =>
              obtain rfl := Option.some.inj ho
              cases hg
            | 1, _ =>
              obtain rfl := Option.some.inj ho
              cases hg
            | 2, _ =>
              obtain rfl := Option.some.inj ho
              cases hg
            | 3, _ =>
              obtain rfl := Option.some.inj ho
              cases hg
            | 4, _ =>
              obtain rfl := Option.some.inj ho
              cases hg
            | 5, _ =>
              obtain rfl := Option.some.inj ho
              cases hg
            | 6, _ =>
              obtain rfl := Option.some.inj ho
              cases hg
            | 7, _ =>
              obtain rfl := Option.some.inj ho
              cases hg
            | 8, _ =>
              obtain rfl := Option.some.inj ho
              obtain ⟨rfl, rfl⟩ : 7 = k ∧ true = t := by simpa using hg
              exact hG
            | 9, _ =>
              obtain rfl := Option.some.inj ho
              obtain ⟨rfl, rfl⟩ : 7 = k ∧ true = t := by simpa using hg
              exact hG
            | 10, _ =>
              obtain rfl := Option.some.inj ho
              obtain ⟨rfl, rfl⟩ : 7 = k ∧ true = t := by simpa using hg
              exact hG
            | 11, _ =>
              obtain rfl := Option.some.inj ho
              obtain ⟨rfl, rfl⟩ : 7 = k ∧ true = t := by simpa using hg
              exact hG
            | 12, _ =>
              obtain rfl := Option.some.inj ho
              obtain ⟨rfl, rfl⟩ : 7 = k ∧ true = t := by simpa using hg
              exact hG
            | 13, _ =>
              obtain rfl := Option.some.inj ho
              obtain ⟨rfl, rfl⟩ : 7 = k ∧ true = t := by simpa using hg
              exact hG
            | 14, _ =>
              obtain rfl := Option.some.inj ho
              obtain ⟨rfl, rfl⟩ : 7 = k ∧ true = t := by simpa using hg
              exact hG
            | 15, _ =>
              obtain rfl := Option.some.inj ho
              obtain ⟨rfl, rfl⟩ : 7 = k ∧ true = t := by simpa using hg
              exact hG
            | 16, _ =>
              obtain rfl := Option.some.inj ho
              cases hg
            | 17, _ =>
              obtain rfl := Option.some.inj ho
              cases hg
            | 18, _ =>
              obtain rfl := Option.some.inj ho
              obtain ⟨rfl, rfl⟩ : 17 = k ∧ true = t := by simpa using hg
              exact hG
            | 19, _ =>
              obtain rfl := Option.some.inj ho
              obtain ⟨rfl, rfl⟩ : 17 = k ∧ true = t := by simpa using hg
              exact hG
            | 20, _ =>
              obtain rfl := Option.some.inj ho
              obtain ⟨rfl, rfl⟩ : 17 = k ∧ true = t := by simpa using hg
              exact hG
            | 21, _ =>
              obtain rfl := Option.some.inj ho
              cases hg
            | 22, _ =>
              obtain rfl := Option.some.inj ho
              cases hg
            | 23, _ =>
              obtain rfl := Option.some.inj ho
              obtain ⟨rfl, rfl⟩ : 22 = k ∧ true = t := by simpa using hg
              exact hG
            | 24, _ =>
              obtain rfl := Option.some.inj ho
              obtain ⟨rfl, rfl⟩ : 22 = k ∧ true = t := by simpa using hg
              exact hG
            | 25, _ =>
              obtain rfl := Option.some.inj ho
              obtain ⟨rfl, rfl⟩ : 22 = k ∧ true = t := by simpa using hg
              exact hG
            | 26, _ =>
              obtain rfl := Option.some.inj ho
              cases hg
            | 27, _ =>
              obtain rfl := Option.some.inj ho
              cases hg
            | n + 28, h => exact absurd h (by simp)
          case step =>
            intro i op b v ho hb hrest hdep
            have r0 : b.eval (.tmp 0) = .slice o p.length c := hrest 0 (Rg.free_spec (by kernel_rfl))
            have r1 : b.eval (.tmp 1) = .slice o2 q.length c2 := hrest 1 (Rg.free_spec (by kernel_rfl))
            have r2 : b.eval (.tmp 2) = .int .i64 (k : Int) := hrest 2 (Rg.free_spec (by kernel_rfl))
            have r7 : b.eval (.tmp 7) = .slice (some ⟨B1, 0, none⟩) p.length (p.length + 6) := hrest 7 (Rg.free_spec (by kernel_rfl))
            have r8 : b.eval (.tmp 8) = .slice (some ⟨B2, 0, none⟩) q.length (q.length + 6) := hrest 8 (Rg.free_spec (by kernel_rfl))
            have r12 : b.eval (.tmp 12) = t12 := hrest 12 (Rg.free_spec (by kernel_rfl))
            have r13 : b.eval (.tmp 13) = .slice o (k) c := hrest 13 (Rg.free_spec (by kernel_rfl))
            have hi := (Array.getElem?_eq_some_iff.1 ho).1
            match i, hi with
            | 0, _ =>
              obtain rfl := Option.some.inj ho
              refine Rg.does_move rfl ?_
              rw [r7]; exact hA.later hb
            | 1, _ =>
              obtain rfl := Option.some.inj ho
              refine Rg.does_move rfl ?_
              rw [r2]; rfl
            | 2, _ =>
              obtain rfl := Option.some.inj ho
              have d1 : RowV (p) (b.eval (.tmp 98)) v := hdep ⟨0, .data⟩ (by simp) rfl _ _ rfl rfl
              have d2 : b.eval (.tmp 99) = .int .i64 (k : Int) := hdep ⟨1, .data⟩ (by simp) rfl _ _ rfl rfl
              obtain ⟨o3, c3, e3, hr3⟩ := d1
              refine Rg.does_fn rfl (enters_of Try.func18 (by kernel_rfl) rfl) (args := #[b.eval (.tmp 98), b.eval (.tmp 99)]) (by simp) ?_
              rw [e3, d2]
              exact shift_any p (k : Int) o3 c3 v hr3 (by omega)
            | 3, _ =>
              obtain rfl := Option.some.inj ho
              have d1 : RowV (tr (shiftL p (shN (k : Int)))) (b.eval (.tmp 100)) v := hdep ⟨2, .data⟩ (by simp) rfl _ _ rfl rfl
              exact Rg.does_conv rfl (conv_rv d1) (rfl)
            | 4, _ =>
              obtain rfl := Option.some.inj ho
              refine Rg.does_move rfl ?_
              rw [r12]; exact hS.later hb
            | 5, _ =>
              obtain rfl := Option.some.inj ho
              have d1 : RowV (tr (shiftL p (shN (k : Int)))) (b.eval (.tmp 102)) v := hdep ⟨4, .data⟩ (by simp) rfl _ _ rfl rfl
              exact Rg.does_conv rfl (conv_rv d1) (rfl)
            | 6, _ =>
              obtain rfl := Option.some.inj ho
              have d1 : (b.eval (.tmp 101)) = .string ⟨(tr (shiftL p (shN (k : Int)))).toArray⟩ := hdep ⟨3, .data⟩ (by simp) rfl _ _ rfl rfl
              have d2 : (b.eval (.tmp 103)) = .string ⟨(tr (shiftL p (shN (k : Int)))).toArray⟩ := hdep ⟨5, .data⟩ (by simp) rfl _ _ rfl rfl
              have f1 : b.tmps[101]?.getD undef = _ := (show _ = b.eval (.tmp 101) by simp [Act.eval]).trans d1
              have f2 : b.tmps[103]?.getD undef = _ := (show _ = b.eval (.tmp 103) by simp [Act.eval]).trans d2
              refine Rg.does_pure (.bool true) ?_ rfl
              have hu := Try.underlying9
              simp only [execOp]
              go_simp
            | 7, _ =>
              obtain rfl := Option.some.inj ho
              have d1 : b.eval (.tmp 104) = .bool true := hdep ⟨6, .data⟩ (by simp) rfl _ _ rfl rfl
              exact Rg.does_move rfl d1
            | 8, _ =>
              obtain rfl := Option.some.inj ho
              refine Rg.does_move rfl ?_
              rw [r7]; exact hA.later hb
            | 9, _ =>
              obtain rfl := Option.some.inj ho
              refine Rg.does_move rfl ?_
              rw [r2]; rfl
            | 10, _ =>
              obtain rfl := Option.some.inj ho
              have d1 : RowV (p) (b.eval (.tmp 106)) v := hdep ⟨8, .data⟩ (by simp) rfl _ _ rfl rfl
              have d2 : b.eval (.tmp 107) = .int .i64 (k : Int) := hdep ⟨9, .data⟩ (by simp) rfl _ _ rfl rfl
              obtain ⟨o3, c3, e3, hr3⟩ := d1
              refine Rg.does_fn rfl (enters_of Try.func19 (by kernel_rfl) rfl) (args := #[b.eval (.tmp 106), b.eval (.tmp 107)]) (by simp) ?_
              rw [e3, d2]
              exact low_any p (k : Int) o3 c3 v hr3 (by omega)
            | 11, _ =>
              obtain rfl := Option.some.inj ho
              have d1 : RowV (tr (p.take (lowN (k : Int) p.length))) (b.eval (.tmp 108)) v := hdep ⟨10, .data⟩ (by simp) rfl _ _ rfl rfl
              exact Rg.does_conv rfl (conv_rv d1) (rfl)
            | 12, _ =>
              obtain rfl := Option.some.inj ho
              refine Rg.does_move rfl ?_
              rw [r13]; exact hC.later hb
            | 13, _ =>
              obtain rfl := Option.some.inj ho
              have d1 : RowV (p.take (lowN (k : Int) p.length)) (b.eval (.tmp 110)) v := hdep ⟨12, .data⟩ (by simp) rfl _ _ rfl rfl
              exact Rg.does_fn rfl (enters_of Try.func10 (by kernel_rfl) rfl) (args := #[b.eval (.tmp 110)]) (by simp) (rtrim_rv d1 (by simp; omega))
            | 14, _ =>
              obtain rfl := Option.some.inj ho
              have d1 : RowV (tr (p.take (lowN (k : Int) p.length))) (b.eval (.tmp 111)) v := hdep ⟨13, .data⟩ (by simp) rfl _ _ rfl rfl
              exact Rg.does_conv rfl (conv_rv d1) (rfl)
            | 15, _ =>
              obtain rfl := Option.some.inj ho
              have d1 : (b.eval (.tmp 109)) = .string ⟨(tr (p.take (lowN (k : Int) p.length))).toArray⟩ := hdep ⟨11, .data⟩ (by simp) rfl _ _ rfl rfl
              have d2 : (b.eval (.tmp 112)) = .string ⟨(tr (p.take (lowN (k : Int) p.length))).toArray⟩ := hdep ⟨14, .data⟩ (by simp) rfl _ _ rfl rfl
              have f1 : b.tmps[109]?.getD undef = _ := (show _ = b.eval (.tmp 109) by simp [Act.eval]).trans d1
              have f2 : b.tmps[112]?.getD undef = _ := (show _ = b.eval (.tmp 112) by simp [Act.eval]).trans d2
              refine Rg.does_pure (.bool true) ?_ rfl
              have hu := Try.underlying9
              simp only [execOp]
              go_simp
            | 16, _ =>
              obtain rfl := Option.some.inj ho
              have d1 : b.eval (.tmp 105) = .bool true := hdep ⟨7, .data⟩ (by simp) rfl _ _ rfl rfl
              have d2 : b.eval (.tmp 113) = .bool true := hdep ⟨15, .data⟩ (by simp) rfl _ _ rfl rfl
              exact Rg.does_pick rfl d1 d2
            | 17, _ =>
              obtain rfl := Option.some.inj ho
              have d1 : b.eval (.tmp 114) = .bool true := hdep ⟨16, .data⟩ (by simp) rfl _ _ rfl rfl
              exact Rg.does_move rfl d1
            | 18, _ =>
              obtain rfl := Option.some.inj ho
              refine Rg.does_move rfl ?_
              exact r7
            | 19, _ =>
              obtain rfl := Option.some.inj ho
              refine Rg.does_move rfl ?_
              exact r0
            | 20, _ =>
              obtain rfl := Option.some.inj ho
              have d1 : b.eval (.tmp 116) = .slice (some ⟨B1, 0, none⟩) p.length (p.length + 6) := hdep ⟨18, .data⟩ (by simp) rfl _ _ rfl rfl
              have d2 : b.eval (.tmp 117) = .slice o p.length c := hdep ⟨19, .data⟩ (by simp) rfl _ _ rfl rfl
              refine Rg.does_fn rfl (enters_of Try.func20 (by kernel_rfl) rfl) (args := #[b.eval (.tmp 116), b.eval (.tmp 117)]) (by simp) ?_
              rw [d1, d2]
              refine (kept_any p B1 o c v (hM.later hb) (hRP.later hb) (by omega)).mono ?_
              rintro e v' ⟨rfl, h⟩
              exact ⟨_, rfl, rfl, h.below⟩
            | 21, _ =>
              obtain rfl := Option.some.inj ho
              have d1 : b.eval (.tmp 115) = .bool true := hdep ⟨17, .data⟩ (by simp) rfl _ _ rfl rfl
              have d2 : b.eval (.tmp 118) = .bool true := hdep ⟨20, .data⟩ (by simp) rfl _ _ rfl rfl
              exact Rg.does_pick rfl d1 d2
            | 22, _ =>
              obtain rfl := Option.some.inj ho
              have d1 : b.eval (.tmp 119) = .bool true := hdep ⟨21, .data⟩ (by simp) rfl _ _ rfl rfl
              exact Rg.does_move rfl d1
            | 23, _ =>
              obtain rfl := Option.some.inj ho
              refine Rg.does_move rfl ?_
              exact r8
            | 24, _ =>
              obtain rfl := Option.some.inj ho
              refine Rg.does_move rfl ?_
              exact r1
            | 25, _ =>
              obtain rfl := Option.some.inj ho
              have d1 : b.eval (.tmp 121) = .slice (some ⟨B2, 0, none⟩) q.length (q.length + 6) := hdep ⟨23, .data⟩ (by simp) rfl _ _ rfl rfl
              have d2 : b.eval (.tmp 122) = .slice o2 q.length c2 := hdep ⟨24, .data⟩ (by simp) rfl _ _ rfl rfl
              refine Rg.does_fn rfl (enters_of Try.func20 (by kernel_rfl) rfl) (args := #[b.eval (.tmp 121), b.eval (.tmp 122)]) (by simp) ?_
              rw [d1, d2]
              refine (kept_any q B2 o2 c2 v (hN.later hb) (hRQ.later hb) (by omega)).mono ?_
              rintro e v' ⟨rfl, h⟩
              exact ⟨_, rfl, rfl, h.below⟩
            | 26, _ =>
              obtain rfl := Option.some.inj ho
              have d1 : b.eval (.tmp 120) = .bool true := hdep ⟨22, .data⟩ (by simp) rfl _ _ rfl rfl
              have d2 : b.eval (.tmp 123) = .bool true := hdep ⟨25, .data⟩ (by simp) rfl _ _ rfl rfl
              exact Rg.does_pick rfl d1 d2
            | 27, _ =>
              obtain rfl := Option.some.inj ho
              have d1 : b.eval (.tmp 124) = .bool true := hdep ⟨26, .data⟩ (by simp) rfl _ _ rfl rfl
              exact Rg.does_assign rfl d1
            | n + 28, h => exact absurd h (by simp)
          case fin =>
            intro b v2 hb hs hd hrest hall
            have h4 : b.tmps.getD 6 undef = .bool true := hall 27 _ 6 rfl rfl
            have HB := Lib.hid (Kit.step HGV.out (Kit.step HB7.out hb))
            go_wp2
            refine bodyPost_ret (results_tmp rfl _ _ _) hd ?_
            exact ⟨by rw [h4], HB.out⟩
        · have ELO : Hid (lowN (k : Int) p.length = p.length) := Lib.hid (by unfold lowN; rw [if_neg hn]; split <;> omega)
          have hpi : ¬ (k : Int) < p.length := by omega
          go_wp2_with (at_make; refine wpList_make_full _ rfl _ _ 22 rfl v.heap.size 5 i0 (.int .u8 0) 1 Try.underlying22 hi hz0 hz1 _ _ _ _ (k) rfl rfl (by omega) (by omega) (by rw [hz2]; omega) (by unfold maxLen; omega) (Nat.le_refl _) ?_)
          intro w5 hown hgrow
          have hb5 : Below v.heap.size v w5 := (Below.refl _ _).grown hgrow (Nat.le_refl _) (fun k h => by cases h)
          obtain ⟨zs, hzs⟩ : ∃ zs : List UInt8, zs = List.replicate (k) 0 := ⟨_, rfl⟩
          have hzl : zs.length = k := by rw [hzs, List.length_replicate]
          have hzb : bytesV zs = List.replicate (k) (.int .u8 0) := by rw [hzs]; exact List.map_replicate
          have HOWN : Hid (w5.ownsRow v.heap.size 5 1 (.slice (some ⟨v.heap.size, 0, none⟩) (k) (k)) (k) (bytesV zs)) := Lib.hid (by
            rw [toList_madeCells_one, ← hzb] at hown; exact hown)
          have HZS : Hid (shiftL p (k) = zs ++ p) := Lib.hid (by rw [hzs]; rfl)
          have HZL := Lib.hid hzl
          clear hzs hzl hzb
          have HB5 := Lib.hid hb5
          have HP5 := Lib.hid (hRP.later hb5)
          clear hown hgrow hb5
          go_wp2_with (at_builtin; refine append_row rfl (.tmp 86) (.tmp 87) rfl v.heap.size _ (k) zs rfl HOWN.out o p.length c p rfl rfl HP5.out (by omega) HB5.out.size ?_)
          intro v6 w6 hv6 hg6
          have HB6 := Lib.hid (own_below (n := 0) HB5.out HOWN.out hg6)
          have h6 : RowV (shiftL p (k)) v6 w6 := by
            rw [HZS.out]; exact owns_rv hv6 (by rw [List.length_append, HZL.out]; try omega)
          have HR := Lib.hid (rtrim_rv h6 (by rw [HZS.out, List.length_append, HZL.out]; omega))
          clear hv6 hg6 h6
          go_wp2_with fail
          refine HR.out.mono ?_; rintro e w7 ⟨t12, rfl, hr7, hb7⟩
          have HB7 := Lib.hid (Kit.step HB6.out hb7)
          have HS := Lib.hid hr7
          clear hr7 hb7 HR
          go_wp2_with fail
          have hS : RowV (tr (shiftL p (shN (k : Int)))) t12 w7 := by rw [ESH.out]; exact HS.out
          have hC : RowV (p.take (lowN (k : Int) p.length)) (.slice o (p.length) c) w7 := by
            rw [ELO.out]; exact ⟨o, c, by simp; try omega, (hRP.later HB7.out).take _⟩
          have hA := hA.later HB7.out
          have hM := hM.later HB7.out
          have hN := hN.later HB7.out
          have hRP := hRP.later HB7.out
          have hRQ := hRQ.later HB7.out
          refine Rg.region_grow (by kernel_rfl) (LstG p q (k : Int) o o2 c c2 B1 B2) (by kernel_rfl) LstG.later ?gd ?step ?fin
          case gd =>
            intro i op k t ho hg x v hG
            have hi := (Array.getElem?_eq_some_iff.1 ho).1
            match i, hi with
            | 0, _ =>
              obtain rfl := Option.some.inj ho
              cases hg
            | 1, _ =>
              obtain rfl := Option.some.inj ho
              cases hg
            | 2, _ =>
              obtain rfl := Option.some.inj ho
              cases hg
            | 3, _ =>
              obtain rfl := Option.some.inj ho
              cases hg
            | 4, _ =>
              obtain rfl := Option.some.inj ho
              cases hg
            | 5, _ =>
              obtain rfl := Option.some.inj ho
              cases hg
            | 6, _ =>
              obtain rfl := Option.some.inj ho
              cases hg
            | 7, _ =>
              obtain rfl := Option.some.inj ho
              cases hg
            | 8, _ =>
              obtain rfl := Option.some.inj ho
              obtain ⟨rfl, rfl⟩ : 7 = k ∧ true = t := by simpa using hg
              exact hG
            | 9, _ =>
              obtain rfl := Option.some.inj ho
              obtain ⟨rfl, rfl⟩ : 7 = k ∧ true = t := by simpa using hg
              exact hG
            | 10, _ =>
              obtain rfl := Option.some.inj ho
              obtain ⟨rfl, rfl⟩ : 7 = k ∧ true = t := by simpa using hg
              exact hG
            | 11, _ =>
              obtain rfl := Option.some.inj ho
              obtain ⟨rfl, rfl⟩ : 7 = k ∧ true = t := by simpa using hg
              exact hG
            | 12, _ =>
              obtain rfl := Option.some.inj ho
              obtain ⟨rfl, rfl⟩ : 7 = k ∧ true = t := by simpa using hg
              exact hG
            | 13, _ =>
              obtain rfl := Option.some.inj ho
              obtain ⟨rfl, rfl⟩ : 7 = k ∧ true = t := by simpa using hg
              exact hG
            | 14, _ =>
              obtain rfl := Option.some.inj ho
              obtain ⟨rfl, rfl⟩ : 7 = k ∧ true = t := by simpa using hg
              exact hG
            | 15, _ =>
              obtain rfl := Option.some.inj ho
              obtain ⟨rfl, rfl⟩ : 7 = k ∧ true = t := by simpa using hg
              exact hG
            | 16, _ =>
              obtain rfl := Option.some.inj ho
              cases hg
            | 17, _ =>
              obtain rfl := Option.some.inj ho
              cases hg
            | 18, _ =>
              obtain rfl := Option.some.inj ho
              obtain ⟨rfl, rfl⟩ : 17 = k ∧ true = t := by simpa using hg
              exact hG
            | 19, _ =>
              obtain rfl := Option.some.inj ho
              obtain ⟨rfl, rfl⟩ : 17 = k ∧ true = t := by simpa using hg
              exact hG
            | 20, _ =>
              obtain rfl := Option.some.inj ho
              obtain ⟨rfl, rfl⟩ : 17 = k ∧ true = t := by simpa using hg
              exact hG
            | 21, _ =>
              obtain rfl := Option.some.inj ho
              cases hg
            | 22, _ =>
              obtain rfl := Option.some.inj ho
              cases hg
            | 23, _ =>
              obtain rfl := Option.some.inj ho
              obtain ⟨rfl, rfl⟩ : 22 = k ∧ true = t := by simpa using hg
              exact hG
            | 24, _ =>
              obtain rfl := Option.some.inj ho
              obtain ⟨rfl, rfl⟩ : 22 = k ∧ true = t := by simpa using hg
              exact hG
            | 25, _ =>
              obtain rfl := Option.some.inj ho
              obtain ⟨rfl, rfl⟩ : 22 = k ∧ true = t := by simpa using hg
              exact hG
            | 26, _ =>
              obtain rfl := Option.some.inj ho
              cases hg
            | 27, _ =>
              obtain rfl := Option.some.inj ho
              cases hg
            | n + 28, h => exact absurd h (by simp)
          case step =>
            intro i op b v ho hb hrest hdep
            have r0 : b.eval (.tmp 0) = .slice o p.length c := hrest 0 (Rg.free_spec (by kernel_rfl))
            have r1 : b.eval (.tmp 1) = .slice o2 q.length c2 := hrest 1 (Rg.free_spec (by kernel_rfl))
            have r2 : b.eval (.tmp 2) = .int .i64 (k : Int) := hrest 2 (Rg.free_spec (by kernel_rfl))
            have r7 : b.eval (.tmp 7) = .slice (some ⟨B1, 0, none⟩) p.length (p.length + 6) := hrest 7 (Rg.free_spec (by kernel_rfl))
            have r8 : b.eval (.tmp 8) = .slice (some ⟨B2, 0, none⟩) q.length (q.length + 6) := hrest 8 (Rg.free_spec (by kernel_rfl))
            have r12 : b.eval (.tmp 12) = t12 := hrest 12 (Rg.free_spec (by kernel_rfl))
            have r13 : b.eval (.tmp 13) = .slice o (p.length) c := hrest 13 (Rg.free_spec (by kernel_rfl))
            have hi := (Array.getElem?_eq_some_iff.1 ho).1
            match i, hi with
            | 0, _ =>
              obtain rfl := Option.some.inj ho
              refine Rg.does_move rfl ?_
              rw [r7]; exact hA.later hb
            | 1, _ =>
              obtain rfl := Option.some.inj ho
              refine Rg.does_move rfl ?_
              rw [r2]; rfl
            | 2, _ =>
              obtain rfl := Option.some.inj ho
              have d1 : RowV (p) (b.eval (.tmp 98)) v := hdep ⟨0, .data⟩ (by simp) rfl _ _ rfl rfl
              have d2 : b.eval (.tmp 99) = .int .i64 (k : Int) := hdep ⟨1, .data⟩ (by simp) rfl _ _ rfl rfl
              obtain ⟨o3, c3, e3, hr3⟩ := d1
              refine Rg.does_fn rfl (enters_of Try.func18 (by kernel_rfl) rfl) (args := #[b.eval (.tmp 98), b.eval (.tmp 99)]) (by simp) ?_
              rw [e3, d2]
              exact shift_any p (k : Int) o3 c3 v hr3 (by omega)
            | 3, _ =>
              obtain rfl := Option.some.inj ho
              have d1 : RowV (tr (shiftL p (shN (k : Int)))) (b.eval (.tmp 100)) v := hdep ⟨2, .data⟩ (by simp) rfl _ _ rfl rfl
              exact Rg.does_conv rfl (conv_rv d1) (rfl)
            | 4, _ =>
              obtain rfl := Option.some.inj ho
              refine Rg.does_move rfl ?_
              rw [r12]; exact hS.later hb
            | 5, _ =>
              obtain rfl := Option.some.inj ho
              have d1 : RowV (tr (shiftL p (shN (k : Int)))) (b.eval (.tmp 102)) v := hdep ⟨4, .data⟩ (by simp) rfl _ _ rfl rfl
              exact Rg.does_conv rfl (conv_rv d1) (rfl)
            | 6, _ =>
              obtain rfl := Option.some.inj ho
              have d1 : (b.eval (.tmp 101)) = .string ⟨(tr (shiftL p (shN (k : Int)))).toArray⟩ := hdep ⟨3, .data⟩ (by simp) rfl _ _ rfl rfl
              have d2 : (b.eval (.tmp 103)) = .string ⟨(tr (shiftL p (shN (k : Int)))).toArray⟩ := hdep ⟨5, .data⟩ (by simp) rfl _ _ rfl rfl
              have f1 : b.tmps[101]?.getD undef = _ := (show _ = b.eval (.tmp 101) by simp [Act.eval]).trans d1
              have f2 : b.tmps[103]?.getD undef = _ := (show _ = b.eval (.tmp 103) by simp [Act.eval]).trans d2
              refine Rg.does_pure (.bool true) ?_ rfl
              have hu := Try.underlying9
              simp only [execOp]
              go_simp
            | 7, _ =>
              obtain rfl := Option.some.inj ho
              have d1 : b.eval (.tmp 104) = .bool true := hdep ⟨6, .data⟩ (by simp) rfl _ _ rfl rfl
              exact Rg.does_move rfl d1
            | 8, _ =>
              obtain rfl := Option.some.inj ho
              refine Rg.does_move rfl ?_
              rw [r7]; exact hA.later hb
            | 9, _ =>
              obtain rfl := Option.some.inj ho
              refine Rg.does_move rfl ?_
              rw [r2]; rfl
            | 10, _ =>
              obtain rfl := Option.some.inj ho
              have d1 : RowV (p) (b.eval (.tmp 106)) v := hdep ⟨8, .data⟩ (by simp) rfl _ _ rfl rfl
              have d2 : b.eval (.tmp 107) = .int .i64 (k : Int) := hdep ⟨9, .data⟩ (by simp) rfl _ _ rfl rfl
              obtain ⟨o3, c3, e3, hr3⟩ := d1
              refine Rg.does_fn rfl (enters_of Try.func19 (by kernel_rfl) rfl) (args := #[b.eval (.tmp 106), b.eval (.tmp 107)]) (by simp) ?_
              rw [e3, d2]
              exact low_any p (k : Int) o3 c3 v hr3 (by omega)
            | 11, _ =>
              obtain rfl := Option.some.inj ho
              have d1 : RowV (tr (p.take (lowN (k : Int) p.length))) (b.eval (.tmp 108)) v := hdep ⟨10, .data⟩ (by simp) rfl _ _ rfl rfl
              exact Rg.does_conv rfl (conv_rv d1) (rfl)
            | 12, _ =>
              obtain rfl := Option.some.inj ho
              refine Rg.does_move rfl ?_
              rw [r13]; exact hC.later hb
            | 13, _ =>
              obtain rfl := Option.some.inj ho
              have d1 : RowV (p.take (lowN (k : Int) p.length)) (b.eval (.tmp 110)) v := hdep ⟨12, .data⟩ (by simp) rfl _ _ rfl rfl
              exact Rg.does_fn rfl (enters_of Try.func10 (by kernel_rfl) rfl) (args := #[b.eval (.tmp 110)]) (by simp) (rtrim_rv d1 (by simp; omega))
            | 14, _ =>
              obtain rfl := Option.some.inj ho
              have d1 : RowV (tr (p.take (lowN (k : Int) p.length))) (b.eval (.tmp 111)) v := hdep ⟨13, .data⟩ (by simp) rfl _ _ rfl rfl
              exact Rg.does_conv rfl (conv_rv d1) (rfl)
            | 15, _ =>
              obtain rfl := Option.some.inj ho
              have d1 : (b.eval (.tmp 109)) = .string ⟨(tr (p.take (lowN (k : Int) p.length))).toArray⟩ := hdep ⟨11, .data⟩ (by simp) rfl _ _ rfl rfl
              have d2 : (b.eval (.tmp 112)) = .string ⟨(tr (p.take (lowN (k : Int) p.length))).toArray⟩ := hdep ⟨14, .data⟩ (by simp) rfl _ _ rfl rfl
              have f1 : b.tmps[109]?.getD undef = _ := (show _ = b.eval (.tmp 109) by simp [Act.eval]).trans d1
              have f2 : b.tmps[112]?.getD undef = _ := (show _ = b.eval (.tmp 112) by simp [Act.eval]).trans d2
              refine Rg.does_pure (.bool true) ?_ rfl
              have hu := Try.underlying9
              simp only [execOp]
              go_simp
            | 16, _ =>
              obtain rfl := Option.some.inj ho
              have d1 : b.eval (.tmp 105) = .bool true := hdep ⟨7, .data⟩ (by simp) rfl _ _ rfl rfl
              have d2 : b.eval (.tmp 113) = .bool true := hdep ⟨15, .data⟩ (by simp) rfl _ _ rfl rfl
              exact Rg.does_pick rfl d1 d2
            | 17, _ =>
              obtain rfl := Option.some.inj ho
              have d1 : b.eval (.tmp 114) = .bool true := hdep ⟨16, .data⟩ (by simp) rfl _ _ rfl rfl
              exact Rg.does_move rfl d1
            | 18, _ =>
              obtain rfl := Option.some.inj ho
              refine Rg.does_move rfl ?_
              exact r7
            | 19, _ =>
              obtain rfl := Option.some.inj ho
              refine Rg.does_move rfl ?_
              exact r0
            | 20, _ =>
              obtain rfl := Option.some.inj ho
              have d1 : b.eval (.tmp 116) = .slice (some ⟨B1, 0, none⟩) p.length (p.length + 6) := hdep ⟨18, .data⟩ (by simp) rfl _ _ rfl rfl
              have d2 : b.eval (.tmp 117) = .slice o p.length c := hdep ⟨19, .data⟩ (by simp) rfl _ _ rfl rfl
              refine Rg.does_fn rfl (enters_of Try.func20 (by kernel_rfl) rfl) (args := #[b.eval (.tmp 116), b.eval (.tmp 117)]) (by simp) ?_
              rw [d1, d2]
              refine (kept_any p B1 o c v (hM.later hb) (hRP.later hb) (by omega)).mono ?_
              rintro e v' ⟨rfl, h⟩
              exact ⟨_, rfl, rfl, h.below⟩
            | 21, _ =>
              obtain rfl := Option.some.inj ho
              have d1 : b.eval (.tmp 115) = .bool true := hdep ⟨17, .data⟩ (by simp) rfl _ _ rfl rfl
              have d2 : b.eval (.tmp 118) = .bool true := hdep ⟨20, .data⟩ (by simp) rfl _ _ rfl rfl
              exact Rg.does_pick rfl d1 d2
            | 22, _ =>
              obtain rfl := Option.some.inj ho
              have d1 : b.eval (.tmp 119) = .bool true := hdep ⟨21, .data⟩ (by simp) rfl _ _ rfl rfl
              exact Rg.does_move rfl d1
            | 23, _ =>
              obtain rfl := Option.some.inj ho
              refine Rg.does_move rfl ?_
              exact r8
            | 24, _ =>
              obtain rfl := Option.some.inj ho
              refine Rg.does_move rfl ?_
              exact r1
            | 25, _ =>
              obtain rfl := Option.some.inj ho
              have d1 : b.eval (.tmp 121) = .slice (some ⟨B2, 0, none⟩) q.length (q.length + 6) := hdep ⟨23, .data⟩ (by simp) rfl _ _ rfl rfl
              have d2 : b.eval (.tmp 122) = .slice o2 q.length c2 := hdep ⟨24, .data⟩ (by simp) rfl _ _ rfl rfl
              refine Rg.does_fn rfl (enters_of Try.func20 (by kernel_rfl) rfl) (args := #[b.eval (.tmp 121), b.eval (.tmp 122)]) (by simp) ?_
              rw [d1, d2]
              refine (kept_any q B2 o2 c2 v (hN.later hb) (hRQ.later hb) (by omega)).mono ?_
              rintro e v' ⟨rfl, h⟩
              exact ⟨_, rfl, rfl, h.below⟩
            | 26, _ =>
              obtain rfl := Option.some.inj ho
              have d1 : b.eval (.tmp 120) = .bool true := hdep ⟨22, .data⟩ (by simp) rfl _ _ rfl rfl
              have d2 : b.eval (.tmp 123) = .bool true := hdep ⟨25, .data⟩ (by simp) rfl _ _ rfl rfl
              exact Rg.does_pick rfl d1 d2
            | 27, _ =>
              obtain rfl := Option.some.inj ho
              have d1 : b.eval (.tmp 124) = .bool true := hdep ⟨26, .data⟩ (by simp) rfl _ _ rfl rfl
              exact Rg.does_assign rfl d1
            | n + 28, h => exact absurd h (by simp)
          case fin =>
            intro b v2 hb hs hd hrest hall
            have h4 : b.tmps.getD 6 undef = .bool true := hall 27 _ 6 rfl rfl
            have HB := Lib.hid (Kit.step HGV.out (Kit.step HB7.out hb))
            go_wp2
            refine bodyPost_ret (results_tmp rfl _ _ _) hd ?_
            exact ⟨by rw [h4], HB.out⟩
theorem sum_long (p q : List UInt8) (n : Int) (o o2 : Option Addr) (c c2 : Nat) (w : World) (hl : 60 < p.length ∨ 60 < q.length) (h1 : p.length ≤ 9223372036854775807) (h2 : q.length ≤ 9223372036854775807) :
    Calls Try.prog 3 #[.slice o p.length c, .slice o2 q.length c2, .int .i64 n] w fun e w' => e = .returned (.bool true) ∧ Below w.heap.size w w' := by
  by_cases h3 : 60 < p.length
  · clear hl
    go_enter Try.func3, Try.ntmps3
    go_wp2_with fail
    refine (alive2_any _).mono ?_; rintro e w1 ⟨rfl, hg⟩
    have HG := Lib.hid hg
    clear hg
    go_wp2_with fail
    go_ret
    exact ⟨rfl, HG.out⟩
  · have h4 : 60 < q.length := by omega
    have hd1 : decide (60 < p.length) = false := by simpa using h3
    clear hl
    go_enter Try.func3, Try.ntmps3
    go_wp2_with fail
    refine (alive2_any _).mono ?_; rintro e w1 ⟨rfl, hg⟩
    have HG := Lib.hid hg
    clear hg
    go_wp2_with fail
    go_ret
    exact ⟨rfl, HG.out⟩
theorem sum_walk (p q : List UInt8) (n : Int) (o o2 : Option Addr) (c c2 : Nat) (w : World) (hP : RowIs w o (bytesV p) c) (hQ : RowIs w o2 (bytesV q) c2) :
    Calls Try.prog 3 #[.slice o p.length c, .slice o2 q.length c2, .int .i64 n] w fun e w' => e = .returned (.bool true) ∧ Below w.heap.size w w' := by
  by_cases hl : 60 < p.length ∨ 60 < q.length
  · have h1 := hP.le
    have h2 := hP.cap
    have h3 := hQ.le
    have h4 := hQ.cap
    simp only [bytesV_length] at h1 h3
    unfold maxLen at h2 h4
    exact sum_long p q n o o2 c c2 w hl (by omega) (by omega)
  · exact sum_short p q n o o2 c c2 w hP hQ (by omega) (by omega)
end Go.Proofs.Ytbmafnippbjpnaa
