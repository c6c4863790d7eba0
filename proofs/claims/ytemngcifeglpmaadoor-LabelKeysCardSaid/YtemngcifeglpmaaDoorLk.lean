/- LabelKeys. -/
import Derived.Test.YtemngcifeglpmaaDoorAl9
import Derived.Test.YtemngcifeglpmaaDoorLq
import Derived.Test.YtemngcifeglpmaaDoorRgo
import Derived.Test.YtemngcifeglpmaaDoorStq
namespace Go.Proofs.YtemngcifeglpmaaDoor
open Go.RowKit
set_option linter.unusedVariables false
set_option linter.unusedSimpArgs false
theorem lit_of9 (a : Array Value) (n : Nat) (h : a.size = n) : a = ((List.range n).map fun i => a.getD i undef).toArray := by
  subst h
  apply Array.ext
  · simp
  · intro i h1 h2
    simp [Array.getD_eq_getD_getElem?, h1]
theorem lmas_rv {z : List UInt8} {x : Value} {v : World} (h : RowV z x v) : Calls Tryd.prog 12 #[x] v fun e v' => ∃ r, e = .returned r ∧ r = .bool (Da.isMas z.length) ∧ Below v.heap.size v v' := by
  obtain ⟨o, c, rfl, _⟩ := h
  refine (lmas_any o z.length c v).mono ?_
  rintro e w' ⟨rfl, rfl⟩
  exact ⟨_, rfl, rfl, Below.refl _ _⟩
/-- what each operation of the region has as its result -/
def LkG (z kk num : List UInt8) (s : ByteArray) (n : Int) (ev : Value) (b9 : Nat) (l b2 : Bool) (i : Nat) (x : Value) (v : World) : Prop :=
  match i with
  | 0 => (x) = ev
  | 1 | 2 => (x) = .int .i64 (b9 : Int)
  | 5 | 7 => RowV (kk) (x) v
  | 6 | 8 => (x) = .string ⟨(kk).toArray⟩
  | 12 | 14 => (x) = .string s
  | 13 | 15 => (x) = .bool l
  | 19 | 21 | 25 => RowV (z) (x) v
  | 20 | 27 | 28 => (x) = .bool b2
  | 22 | 26 => (x) = .int .i64 ((z).length : Int)
  | 23 | 24 => (x) = .bool true
  | 32 | 35 => (x) = .int .i64 n
  | 33 | 36 => RowV (num) (x) v
  | 34 | 37 => (x) = .string ⟨(num).toArray⟩
  | _ => (x) = .bool false
theorem LkG.later {z kk num : List UInt8} {s : ByteArray} {n : Int} {ev : Value} {b9 : Nat} {l b2 : Bool} (i : Nat) (x : Value) (v v' : World) (h : LkG z kk num s n ev b9 l b2 i x v) (hb : Below v.heap.size v v') : LkG z kk num s n ev b9 l b2 i x v' := by
  unfold LkG at *
  split at h <;> first | exact h | exact h.later hb
/-- what each operation of the region has as its result -/
def LkH (z kk num : List UInt8) (s : ByteArray) (n : Int) (ev : Value) (b9 : Nat) (l b2 : Bool) (i : Nat) (x : Value) (v : World) : Prop :=
  match i with
  | 0 => (x) = ev
  | 1 | 2 => (x) = .int .i64 (b9 : Int)
  | 5 | 7 => RowV (kk) (x) v
  | 6 | 8 => (x) = .string ⟨(kk).toArray⟩
  | 12 | 14 => (x) = .string s
  | 13 | 15 => (x) = .bool l
  | 19 | 21 => RowV (z) (x) v
  | 22 => (x) = .int .i64 ((z).length : Int)
  | 25 | 26 | 27 => (x) = undef
  | 32 | 35 => (x) = .int .i64 n
  | 33 | 36 => RowV (num) (x) v
  | 34 | 37 => (x) = .string ⟨(num).toArray⟩
  | _ => (x) = .bool false
theorem LkH.later {z kk num : List UInt8} {s : ByteArray} {n : Int} {ev : Value} {b9 : Nat} {l b2 : Bool} (i : Nat) (x : Value) (v v' : World) (h : LkH z kk num s n ev b9 l b2 i x v) (hb : Below v.heap.size v v') : LkH z kk num s n ev b9 l b2 i x v' := by
  unfold LkH at *
  split at h <;> first | exact h | exact h.later hb
/-- where the last loop stands -/
def Lk9 (V : World) (i : Value) (wr : World) : Prop := ∃ q : Nat, q ≤ 5 ∧ i = .int .i64 q ∧ Below V.heap.size V wr
set_option maxRecDepth 100000 in
set_option maxHeartbeats 4000000 in
theorem lk_of (Z Y : Array Value) (hZ : Z = nil5.toArray) (hzs : ∀ w, Sem.run Tryd.prog (zeroValue 36) w = .ok (.agg Z) w) (hY : Y = nil5.toArray) (hys : ∀ w, Sem.run Tryd.prog (zeroValue 39) w = .ok (.agg Y) w)
    (z : List UInt8) (o : Option Addr) (c : Nat) (s : ByteArray) (n : Int) (A : Nat → Addr) (W : World) (hK : RowIs W o (bytesV z) c) (hs63 : s.size ≤ 9223372036854775807) (hC : Cds W) (hD : Rds W) (hE : Er.Errs W A) :
    Calls Tryd.prog 3 #[.slice o z.length c, .string s, .int .i64 n] W fun e w' => e = .returned (.bool true) ∧ Below W.heap.size W w' := by
  have AL := Lib.hid (alive9_any A W hC hE)
  have hk1 := hK.le
  have hk2 := hK.cap
  simp only [bytesV_length] at hk1
  unfold maxLen at hk2
  have HK := Lib.hid hK
  have HC := Lib.hid hC
  have HD := Lib.hid hD
  have HE := Lib.hid hE
  have HZ := Lib.hid hZ
  have HY := Lib.hid hY
  clear hK hC hD hE hZ hY
  go_enter Tryd.func3, Tryd.ntmps3
  go_wp2_with fail
  refine AL.out.mono ?_
  rintro e W1 ⟨rfl, hb1⟩
  have HB1 := Lib.hid hb1
  clear hb1 AL
  by_cases hz3 : 200 < z.length
  · have hd : decide ((z.length : Int) > 200) = true := decide_eq_true (by omega)
    go_wp2_with fail
    go_ret
    exact ⟨rfl, HB1.out⟩
  have hd : decide ((z.length : Int) > 200) = false := decide_eq_false (by omega)
  by_cases hs3 : 100 < s.size
  · have hd2 : decide ((s.size : Int) > 100) = true := decide_eq_true (by omega)
    go_wp2_with fail
    go_ret
    exact ⟨rfl, HB1.out⟩
  have hd2 : decide ((s.size : Int) > 100) = false := decide_eq_false (by omega)
  have BY := Lib.hid (bytes_any z o c W1 (HK.out.later HB1.out) (by omega))
  go_wp2_with fail
  refine BY.out.mono ?_
  rintro e X2 ⟨B1, rfl, hb2, _, hM2⟩
  have HB2 := Lib.hid (Kit.step HB1.out hb2)
  have HM2 := Lib.hid hM2
  clear hb2 hM2 BY HB1
  obtain ⟨b9, hb9⟩ : ∃ b, Da.kbad (Da.isMas z.length) (Da.isLab s.data.toList) (Da.inR n) = b := ⟨_, rfl⟩
  have hb9l : b9 ≤ 9 := by rw [← hb9]; unfold Da.kbad; split <;> (try split) <;> (try split) <;> omega
  obtain ⟨kk, hkk⟩ : ∃ kk, Da.kres b9 (Da.keyL z s.data.toList n) = kk := ⟨_, rfl⟩
  obtain ⟨ev, hev⟩ : ∃ ev, errV A b9 = ev := ⟨_, rfl⟩
  have LK := lkey_any z (some ⟨B1, 0, none⟩) (z.length + 6) s n A X2 (HM2.out.row (by unfold maxLen; omega)) (HC.out.later HB2.out) (HE.out.later HB2.out).nine (by omega) (by omega)
  rw [hb9, hkk, hev] at LK
  have HLK := Lib.hid LK
  have RK : Hid (∀ v, Below W.heap.size W v → Calls Tryd.prog 8 #[.slice o z.length c, .string s, .int .i64 n] v fun e w' => ∃ x, e = .returned (.tuple #[x, .int .i64 (b9 : Int)]) ∧ RowV kk x w' ∧ Below v.heap.size v w') := Lib.hid fun v hv => by
    have := rkey9_any z o c s n v (HK.out.later hv) (HD.out.later hv) (by omega) (by omega)
    rw [hb9, hkk] at this
    exact this
  have HNM : Hid (∀ v, Below W.heap.size W v → Calls Tryd.prog 9 #[ev] v fun e v' => ∃ r, e = .returned r ∧ r = .int .i64 (b9 : Int) ∧ Below v.heap.size v v') := Lib.hid fun v hv => by
    rw [← hev]
    refine (Er.num_any A b9 (by omega) v (HE.out.later hv)).mono ?_
    rintro e w' ⟨rfl, hb⟩
    exact ⟨_, rfl, rfl, hb⟩
  clear hb9 hkk hev LK
  go_wp2_with fail
  refine HLK.out.mono ?_
  rintro e X3 ⟨x8, rfl, hx8, hb3⟩
  have HB3 := Lib.hid (Kit.step HB2.out hb3)
  have HM3 := Lib.hid (HM2.out.later hb3)
  have HX8 := Lib.hid hx8
  clear hx8 hb3 HLK HM2 HB2
  go_wp2_with fail
  refine (RK.out X3 HB3.out).mono ?_
  rintro e X4 ⟨x10, rfl, hx10, hb4⟩
  have HB4 := Lib.hid (Kit.step HB3.out hb4)
  have HM4 := Lib.hid (HM3.out.later hb4)
  have HX84 := Lib.hid (HX8.out.later hb4)
  have HX10 := Lib.hid hx10
  clear hx10 hb4 HM3 HX8 HB3 RK
  go_upto_region 8 with fail
  refine Code.wp_mono (Q := fun e b v => e = .normal ∧ Below X4.heap.size X4 v ∧ ∃ f : Nat → Value, b = { tmps := #[.slice o z.length c, .string s, .int .i64 n, f 3, f 4, f 5, f 6, .slice (some ⟨B1, 0, none⟩) z.length (z.length + 6), f 8, f 9, f 10, f 11, f 12, f 13, f 14, f 15, f 16, f 17, f 18, f 19, f 20, f 21, f 22, f 23, f 24, f 25, f 26, f 27, f 28, f 29, f 30, f 31, f 32, f 33, f 34, f 35, f 36, f 37, f 38, f 39, f 40, f 41, f 42, f 43, f 44, f 45, f 46, f 47, f 48, f 49, f 50, f 51, f 52, f 53, f 54, f 55, f 56, f 57, f 58, f 59, f 60, f 61, f 62, f 63, f 64, f 65, f 66, f 67, f 68, f 69, f 70, f 71, f 72, f 73, f 74, f 75, f 76, f 77, f 78, f 79, f 80, f 81, .bool false, f 83, f 84, f 85, f 86, f 87, f 88, f 89, f 90, f 91, f 92, f 93, f 94, f 95, f 96, f 97, f 98, f 99, f 100, f 101, f 102, f 103, f 104, f 105, f 106, f 107, f 108, f 109, f 110, f 111, f 112, f 113, f 114, f 115, f 116, f 117, f 118], defers := [] }) ?rest ?reg
  case reg =>
    have hz : RowV z (.slice o z.length c) X4 := ⟨_, _, rfl, HK.out.later HB4.out⟩
    have hin : RowV z (.slice (some ⟨B1, 0, none⟩) z.length (z.length + 6)) X4 := ⟨_, _, rfl, HM4.out.row (by unfold maxLen; omega)⟩
    have hk8 := HX84.out
    have hk10 := HX10.out
    have NM : ∀ v, Below X4.heap.size X4 v → Calls Tryd.prog 9 #[ev] v fun e v' => ∃ r, e = .returned r ∧ r = .int .i64 (b9 : Int) ∧ Below v.heap.size v v' := fun v hv => HNM.out v (Kit.step HB4.out hv)
    obtain ⟨l, hl⟩ : ∃ l, Da.isLab s.data.toList = l := ⟨_, rfl⟩
    have LL : ∀ v, Calls Tryd.prog 10 #[.string s] v fun e v' => ∃ r, e = .returned r ∧ r = .bool l ∧ Below v.heap.size v v' := fun v => by
      refine (llab_any s (by omega) v).mono ?_
      rintro e w' ⟨rfl, rfl⟩
      exact ⟨_, rfl, by rw [hl], Below.refl _ _⟩
    have RL : ∀ v, Calls Tryd.prog 11 #[.string s] v fun e v' => ∃ r, e = .returned r ∧ r = .bool l ∧ Below v.heap.size v v' := fun v => by
      refine (rlab_any s (by omega) v).mono ?_
      rintro e w' ⟨rfl, rfl⟩
      exact ⟨_, rfl, by rw [hl], Below.refl _ _⟩
    obtain ⟨num, hnum⟩ : ∃ num, Da.num8 n = num := ⟨_, rfl⟩
    have hnl : num.length = 8 := by rw [← hnum]; exact Da.num8_length n
    have NU : ∀ v, Calls Tryd.prog 13 #[.int .i64 n] v fun e v' => ∃ r, e = .returned r ∧ RowV num r v' ∧ Below v.heap.size v v' := fun v => by
      refine (lnum_any n v).mono ?_
      rintro e w' ⟨rfl, ha, hb⟩
      have hrow := ha.row (by rw [Da.num8_length]; unfold maxLen; decide)
      rw [hnum, hnl] at hrow
      exact ⟨_, rfl, ⟨_, 8, by rw [hnl], hrow⟩, hb⟩
    have RN : ∀ v, Calls Tryd.prog 14 #[.int .i64 n] v fun e v' => ∃ r, e = .returned r ∧ RowV num r v' ∧ Below v.heap.size v v' := fun v => by
      refine (rnum9_any n v).mono ?_
      rintro e w' ⟨g, rfl, hr, hb⟩
      rw [hnum] at hr
      exact ⟨_, rfl, ⟨_, 8, by rw [hnl], hr⟩, hb⟩
    clear HK HC HD HE HM4 HB4 HX84 HX10 HNM hnum hl
    by_cases h16 : 16 ≤ z.length
    · obtain ⟨b2, hb2⟩ : ∃ b2, decide ((z.length : Int) ≤ 64) = b2 := ⟨_, rfl⟩
      have hd16 : decide ((z.length : Int) ≥ 16) = true := decide_eq_true (by omega)
      have hmas : Da.isMas z.length = b2 := by
        rw [← hb2]
        unfold Da.isMas
        rw [decide_eq_true h16, Bool.true_and]
        exact decide_eq_decide.2 (by omega)
      have LM : ∀ v {x : Value}, RowV z x v → Calls Tryd.prog 12 #[x] v fun e v' => ∃ r, e = .returned r ∧ r = .bool b2 ∧ Below v.heap.size v v' := fun v x hx => by
        have := lmas_rv hx
        rw [hmas] at this
        exact this
      clear hmas
      refine Rg.region_growO (by kernel_rfl) (LkG z kk num s n ev b9 l b2) (by kernel_rfl) LkG.later ?gd ?step ?fin
      case gd =>
        intro i op k t ho hg x v hG
        have hi := (Array.getElem?_eq_some_iff.1 ho).1
        match i, hi with
        | 0, _ =>
          obtain rfl := Option.some.inj ho
          cases hg
        | 1, _ =>
          obtain rfl := Option.some.inj ho
          cases hg
        | 2, _ =>
          obtain rfl := Option.some.inj ho
          cases hg
        | 3, _ =>
          obtain rfl := Option.some.inj ho
          cases hg
        | 4, _ =>
          obtain rfl := Option.some.inj ho
          cases hg
        | 5, _ =>
          obtain rfl := Option.some.inj ho
          obtain ⟨rfl, rfl⟩ : 4 = k ∧ false = t := by simpa using hg
          exact .inl hG
        | 6, _ =>
          obtain rfl := Option.some.inj ho
          obtain ⟨rfl, rfl⟩ : 4 = k ∧ false = t := by simpa using hg
          exact .inl hG
        | 7, _ =>
          obtain rfl := Option.some.inj ho
          obtain ⟨rfl, rfl⟩ : 4 = k ∧ false = t := by simpa using hg
          exact .inl hG
        | 8, _ =>
          obtain rfl := Option.some.inj ho
          obtain ⟨rfl, rfl⟩ : 4 = k ∧ false = t := by simpa using hg
          exact .inl hG
        | 9, _ =>
          obtain rfl := Option.some.inj ho
          obtain ⟨rfl, rfl⟩ : 4 = k ∧ false = t := by simpa using hg
          exact .inl hG
        | 10, _ =>
          obtain rfl := Option.some.inj ho
          cases hg
        | 11, _ =>
          obtain rfl := Option.some.inj ho
          cases hg
        | 12, _ =>
          obtain rfl := Option.some.inj ho
          obtain ⟨rfl, rfl⟩ : 11 = k ∧ false = t := by simpa using hg
          exact .inl hG
        | 13, _ =>
          obtain rfl := Option.some.inj ho
          obtain ⟨rfl, rfl⟩ : 11 = k ∧ false = t := by simpa using hg
          exact .inl hG
        | 14, _ =>
          obtain rfl := Option.some.inj ho
          obtain ⟨rfl, rfl⟩ : 11 = k ∧ false = t := by simpa using hg
          exact .inl hG
        | 15, _ =>
          obtain rfl := Option.some.inj ho
          obtain ⟨rfl, rfl⟩ : 11 = k ∧ false = t := by simpa using hg
          exact .inl hG
        | 16, _ =>
          obtain rfl := Option.some.inj ho
          obtain ⟨rfl, rfl⟩ : 11 = k ∧ false = t := by simpa using hg
          exact .inl hG
        | 17, _ =>
          obtain rfl := Option.some.inj ho
          cases hg
        | 18, _ =>
          obtain rfl := Option.some.inj ho
          cases hg
        | 19, _ =>
          obtain rfl := Option.some.inj ho
          obtain ⟨rfl, rfl⟩ : 18 = k ∧ false = t := by simpa using hg
          exact .inl hG
        | 20, _ =>
          obtain rfl := Option.some.inj ho
          obtain ⟨rfl, rfl⟩ : 18 = k ∧ false = t := by simpa using hg
          exact .inl hG
        | 21, _ =>
          obtain rfl := Option.some.inj ho
          obtain ⟨rfl, rfl⟩ : 18 = k ∧ false = t := by simpa using hg
          exact .inl hG
        | 22, _ =>
          obtain rfl := Option.some.inj ho
          obtain ⟨rfl, rfl⟩ : 18 = k ∧ false = t := by simpa using hg
          exact .inl hG
        | 23, _ =>
          obtain rfl := Option.some.inj ho
          obtain ⟨rfl, rfl⟩ : 18 = k ∧ false = t := by simpa using hg
          exact .inl hG
        | 24, _ =>
          obtain rfl := Option.some.inj ho
          obtain ⟨rfl, rfl⟩ : 18 = k ∧ false = t := by simpa using hg
          exact .inl hG
        | 25, _ =>
          obtain rfl := Option.some.inj ho
          obtain ⟨rfl, rfl⟩ : 24 = k ∧ true = t := by simpa using hg
          exact .inl hG
        | 26, _ =>
          obtain rfl := Option.some.inj ho
          obtain ⟨rfl, rfl⟩ : 24 = k ∧ true = t := by simpa using hg
          exact .inl hG
        | 27, _ =>
          obtain rfl := Option.some.inj ho
          obtain ⟨rfl, rfl⟩ : 24 = k ∧ true = t := by simpa using hg
          exact .inl hG
        | 28, _ =>
          obtain rfl := Option.some.inj ho
          obtain ⟨rfl, rfl⟩ : 18 = k ∧ false = t := by simpa using hg
          exact .inl hG
        | 29, _ =>
          obtain rfl := Option.some.inj ho
          obtain ⟨rfl, rfl⟩ : 18 = k ∧ false = t := by simpa using hg
          exact .inl hG
        | 30, _ =>
          obtain rfl := Option.some.inj ho
          cases hg
        | 31, _ =>
          obtain rfl := Option.some.inj ho
          cases hg
        | 32, _ =>
          obtain rfl := Option.some.inj ho
          obtain ⟨rfl, rfl⟩ : 31 = k ∧ false = t := by simpa using hg
          exact .inl hG
        | 33, _ =>
          obtain rfl := Option.some.inj ho
          obtain ⟨rfl, rfl⟩ : 31 = k ∧ false = t := by simpa using hg
          exact .inl hG
        | 34, _ =>
          obtain rfl := Option.some.inj ho
          obtain ⟨rfl, rfl⟩ : 31 = k ∧ false = t := by simpa using hg
          exact .inl hG
        | 35, _ =>
          obtain rfl := Option.some.inj ho
          obtain ⟨rfl, rfl⟩ : 31 = k ∧ false = t := by simpa using hg
          exact .inl hG
        | 36, _ =>
          obtain rfl := Option.some.inj ho
          obtain ⟨rfl, rfl⟩ : 31 = k ∧ false = t := by simpa using hg
          exact .inl hG
        | 37, _ =>
          obtain rfl := Option.some.inj ho
          obtain ⟨rfl, rfl⟩ : 31 = k ∧ false = t := by simpa using hg
          exact .inl hG
        | 38, _ =>
          obtain rfl := Option.some.inj ho
          obtain ⟨rfl, rfl⟩ : 31 = k ∧ false = t := by simpa using hg
          exact .inl hG
        | 39, _ =>
          obtain rfl := Option.some.inj ho
          cases hg
        | n + 40, h => exact absurd h (by simp)
      case step =>
        intro i op b v ho hb hrest hdep hgx
        have r9 : b.eval (.tmp 9) = ev := hrest 9 (Rg.free_spec (by kernel_rfl))
        have r11 : b.eval (.tmp 11) = .int .i64 (b9 : Int) := hrest 11 (Rg.free_spec (by kernel_rfl))
        have r8 : b.eval (.tmp 8) = x8 := hrest 8 (Rg.free_spec (by kernel_rfl))
        have r10 : b.eval (.tmp 10) = x10 := hrest 10 (Rg.free_spec (by kernel_rfl))
        have r1 : b.eval (.tmp 1) = .string s := hrest 1 (Rg.free_spec (by kernel_rfl))
        have r7 : b.eval (.tmp 7) = .slice (some ⟨B1, 0, none⟩) z.length (z.length + 6) := hrest 7 (Rg.free_spec (by kernel_rfl))
        have r0 : b.eval (.tmp 0) = .slice o z.length c := hrest 0 (Rg.free_spec (by kernel_rfl))
        have r2 : b.eval (.tmp 2) = .int .i64 n := hrest 2 (Rg.free_spec (by kernel_rfl))
        have hi := (Array.getElem?_eq_some_iff.1 ho).1
        match i, hi with
        | 0, _ =>
          obtain rfl := Option.some.inj ho
          have d1 : b.eval (.tmp 9) = ev := r9
          exact Rg.does_move rfl d1
        | 1, _ =>
          obtain rfl := Option.some.inj ho
          have d1 : (b.eval (.tmp 43)) = ev := hdep ⟨0, .data⟩ (by simp) rfl _ _ rfl rfl
          exact Rg.does_fn rfl (enters_of Tryd.func9 (by kernel_rfl) rfl) (args := #[b.eval (.tmp 43)]) (by simp) (by rw [d1]; exact NM v hb)
        | 2, _ =>
          obtain rfl := Option.some.inj ho
          have d1 : b.eval (.tmp 11) = .int .i64 (b9 : Int) := r11
          exact Rg.does_move rfl d1
        | 3, _ =>
          obtain rfl := Option.some.inj ho
          have d1 : (b.eval (.tmp 44)) = .int .i64 (b9 : Int) := hdep ⟨1, .data⟩ (by simp) rfl _ _ rfl rfl
          have d2 : (b.eval (.tmp 45)) = .int .i64 (b9 : Int) := hdep ⟨2, .data⟩ (by simp) rfl _ _ rfl rfl
          have f1 : b.tmps[44]?.getD undef = _ := (show _ = b.eval (.tmp 44) by simp [Act.eval]).trans d1
          have f2 : b.tmps[45]?.getD undef = _ := (show _ = b.eval (.tmp 45) by simp [Act.eval]).trans d2
          refine Rg.does_pure (.bool false) ?_ rfl
          simp only [execOp]
          go_simp
        | 4, _ =>
          obtain rfl := Option.some.inj ho
          have d1 : (b.eval (.tmp 46)) = .bool false := hdep ⟨3, .data⟩ (by simp) rfl _ _ rfl rfl
          exact Rg.does_move rfl d1
        | 5, _ =>
          obtain rfl := Option.some.inj ho
          have d1 : RowV (kk) (b.eval (.tmp 8)) v := by rw [r8]; exact hk8.later hb
          exact Rg.does_move rfl d1
        | 6, _ =>
          obtain rfl := Option.some.inj ho
          have d1 : RowV (kk) (b.eval (.tmp 48)) v := hdep ⟨5, .data⟩ (by simp) rfl _ _ rfl rfl
          exact Rg.does_conv rfl (conv_rv d1) (rfl)
        | 7, _ =>
          obtain rfl := Option.some.inj ho
          have d1 : RowV (kk) (b.eval (.tmp 10)) v := by rw [r10]; exact hk10.later hb
          exact Rg.does_move rfl d1
        | 8, _ =>
          obtain rfl := Option.some.inj ho
          have d1 : RowV (kk) (b.eval (.tmp 50)) v := hdep ⟨7, .data⟩ (by simp) rfl _ _ rfl rfl
          exact Rg.does_conv rfl (conv_rv d1) (rfl)
        | 9, _ =>
          obtain rfl := Option.some.inj ho
          have d1 : (b.eval (.tmp 49)) = .string ⟨(kk).toArray⟩ := hdep ⟨6, .data⟩ (by simp) rfl _ _ rfl rfl
          have d2 : (b.eval (.tmp 51)) = .string ⟨(kk).toArray⟩ := hdep ⟨8, .data⟩ (by simp) rfl _ _ rfl rfl
          have f1 : b.tmps[49]?.getD undef = _ := (show _ = b.eval (.tmp 49) by simp [Act.eval]).trans d1
          have f2 : b.tmps[51]?.getD undef = _ := (show _ = b.eval (.tmp 51) by simp [Act.eval]).trans d2
          refine Rg.does_pure (.bool false) ?_ rfl
          have hu := Tryd.underlying9
          simp only [execOp]
          go_simp
        | 10, _ =>
          obtain rfl := Option.some.inj ho
          have d1 : (b.eval (.tmp 47)) = .bool false := hdep ⟨4, .data⟩ (by simp) rfl _ _ rfl rfl
          have d2 : (b.eval (.tmp 52)) = .bool false := hdep ⟨9, .data⟩ (by simp) rfl _ _ rfl rfl
          exact Rg.does_pick rfl d1 d2
        | 11, _ =>
          obtain rfl := Option.some.inj ho
          have d1 : (b.eval (.tmp 53)) = .bool false := hdep ⟨10, .data⟩ (by simp) rfl _ _ rfl rfl
          exact Rg.does_move rfl d1
        | 12, _ =>
          obtain rfl := Option.some.inj ho
          have d1 : b.eval (.tmp 1) = .string s := r1
          exact Rg.does_move rfl d1
        | 13, _ =>
          obtain rfl := Option.some.inj ho
          have d1 : (b.eval (.tmp 55)) = .string s := hdep ⟨12, .data⟩ (by simp) rfl _ _ rfl rfl
          exact Rg.does_fn rfl (enters_of Tryd.func10 (by kernel_rfl) rfl) (args := #[b.eval (.tmp 55)]) (by simp) (by rw [d1]; exact LL v)
        | 14, _ =>
          obtain rfl := Option.some.inj ho
          have d1 : b.eval (.tmp 1) = .string s := r1
          exact Rg.does_move rfl d1
        | 15, _ =>
          obtain rfl := Option.some.inj ho
          have d1 : (b.eval (.tmp 57)) = .string s := hdep ⟨14, .data⟩ (by simp) rfl _ _ rfl rfl
          exact Rg.does_fn rfl (enters_of Tryd.func11 (by kernel_rfl) rfl) (args := #[b.eval (.tmp 57)]) (by simp) (by rw [d1]; exact RL v)
        | 16, _ =>
          obtain rfl := Option.some.inj ho
          have d1 : (b.eval (.tmp 56)) = .bool l := hdep ⟨13, .data⟩ (by simp) rfl _ _ rfl rfl
          have d2 : (b.eval (.tmp 58)) = .bool l := hdep ⟨15, .data⟩ (by simp) rfl _ _ rfl rfl
          have f1 : b.tmps[56]?.getD undef = _ := (show _ = b.eval (.tmp 56) by simp [Act.eval]).trans d1
          have f2 : b.tmps[58]?.getD undef = _ := (show _ = b.eval (.tmp 58) by simp [Act.eval]).trans d2
          refine Rg.does_pure (.bool false) ?_ rfl
          simp only [execOp]
          go_simp
        | 17, _ =>
          obtain rfl := Option.some.inj ho
          have d1 : (b.eval (.tmp 54)) = .bool false := hdep ⟨11, .data⟩ (by simp) rfl _ _ rfl rfl
          have d2 : (b.eval (.tmp 59)) = .bool false := hdep ⟨16, .data⟩ (by simp) rfl _ _ rfl rfl
          exact Rg.does_pick rfl d1 d2
        | 18, _ =>
          obtain rfl := Option.some.inj ho
          have d1 : (b.eval (.tmp 60)) = .bool false := hdep ⟨17, .data⟩ (by simp) rfl _ _ rfl rfl
          exact Rg.does_move rfl d1
        | 19, _ =>
          obtain rfl := Option.some.inj ho
          have d1 : RowV (z) (b.eval (.tmp 7)) v := by rw [r7]; exact hin.later hb
          exact Rg.does_move rfl d1
        | 20, _ =>
          obtain rfl := Option.some.inj ho
          have d1 : RowV (z) (b.eval (.tmp 62)) v := hdep ⟨19, .data⟩ (by simp) rfl _ _ rfl rfl
          exact Rg.does_fn rfl (enters_of Tryd.func12 (by kernel_rfl) rfl) (args := #[b.eval (.tmp 62)]) (by simp) (LM v d1)
        | 21, _ =>
          obtain rfl := Option.some.inj ho
          have d1 : RowV (z) (b.eval (.tmp 0)) v := by rw [r0]; exact hz.later hb
          exact Rg.does_move rfl d1
        | 22, _ =>
          obtain rfl := Option.some.inj ho
          have d1 : RowV (z) (b.eval (.tmp 64)) v := hdep ⟨21, .data⟩ (by simp) rfl _ _ rfl rfl
          obtain ⟨o3, c3, e3, hr3⟩ := d1
          have f1 : b.tmps[64]?.getD undef = _ := (show _ = b.eval (.tmp 64) by simp [Act.eval]).trans e3
          refine Rg.does_pure (.int .i64 ((z).length : Int)) ?_ rfl
          simp only [execOp]
          go_simp
        | 23, _ =>
          obtain rfl := Option.some.inj ho
          have d1 : (b.eval (.tmp 65)) = .int .i64 ((z).length : Int) := hdep ⟨22, .data⟩ (by simp) rfl _ _ rfl rfl
          have f1 : b.tmps[65]?.getD undef = _ := (show _ = b.eval (.tmp 65) by simp [Act.eval]).trans d1
          refine Rg.does_pure (.bool true) ?_ rfl
          simp only [execOp]
          go_simp
        | 24, _ =>
          obtain rfl := Option.some.inj ho
          have d1 : (b.eval (.tmp 66)) = .bool true := hdep ⟨23, .data⟩ (by simp) rfl _ _ rfl rfl
          exact Rg.does_move rfl d1
        | 25, _ =>
          obtain rfl := Option.some.inj ho
          have d1 : RowV (z) (b.eval (.tmp 0)) v := by rw [r0]; exact hz.later hb
          exact Rg.does_move rfl d1
        | 26, _ =>
          obtain rfl := Option.some.inj ho
          have d1 : RowV (z) (b.eval (.tmp 68)) v := hdep ⟨25, .data⟩ (by simp) rfl _ _ rfl rfl
          obtain ⟨o3, c3, e3, hr3⟩ := d1
          have f1 : b.tmps[68]?.getD undef = _ := (show _ = b.eval (.tmp 68) by simp [Act.eval]).trans e3
          refine Rg.does_pure (.int .i64 ((z).length : Int)) ?_ rfl
          simp only [execOp]
          go_simp
        | 27, _ =>
          obtain rfl := Option.some.inj ho
          have d1 : (b.eval (.tmp 69)) = .int .i64 ((z).length : Int) := hdep ⟨26, .data⟩ (by simp) rfl _ _ rfl rfl
          have f1 : b.tmps[69]?.getD undef = _ := (show _ = b.eval (.tmp 69) by simp [Act.eval]).trans d1
          refine Rg.does_pure (.bool b2) ?_ rfl
          simp only [execOp]
          go_simp
        | 28, _ =>
          obtain rfl := Option.some.inj ho
          have d1 : (b.eval (.tmp 67)) = .bool true := hdep ⟨24, .data⟩ (by simp) rfl _ _ rfl rfl
          have d2 : (b.eval (.tmp 70)) = .bool b2 := hdep ⟨27, .data⟩ (by simp) rfl _ _ rfl rfl
          exact Rg.does_pick rfl d1 d2
        | 29, _ =>
          obtain rfl := Option.some.inj ho
          have d1 : (b.eval (.tmp 63)) = .bool b2 := hdep ⟨20, .data⟩ (by simp) rfl _ _ rfl rfl
          have d2 : (b.eval (.tmp 71)) = .bool b2 := hdep ⟨28, .data⟩ (by simp) rfl _ _ rfl rfl
          have f1 : b.tmps[63]?.getD undef = _ := (show _ = b.eval (.tmp 63) by simp [Act.eval]).trans d1
          have f2 : b.tmps[71]?.getD undef = _ := (show _ = b.eval (.tmp 71) by simp [Act.eval]).trans d2
          refine Rg.does_pure (.bool false) ?_ rfl
          simp only [execOp]
          go_simp
        | 30, _ =>
          obtain rfl := Option.some.inj ho
          have d1 : (b.eval (.tmp 61)) = .bool false := hdep ⟨18, .data⟩ (by simp) rfl _ _ rfl rfl
          have d2 : (b.eval (.tmp 72)) = .bool false := hdep ⟨29, .data⟩ (by simp) rfl _ _ rfl rfl
          exact Rg.does_pick rfl d1 d2
        | 31, _ =>
          obtain rfl := Option.some.inj ho
          have d1 : (b.eval (.tmp 73)) = .bool false := hdep ⟨30, .data⟩ (by simp) rfl _ _ rfl rfl
          exact Rg.does_move rfl d1
        | 32, _ =>
          obtain rfl := Option.some.inj ho
          have d1 : b.eval (.tmp 2) = .int .i64 n := r2
          exact Rg.does_move rfl d1
        | 33, _ =>
          obtain rfl := Option.some.inj ho
          have d1 : (b.eval (.tmp 75)) = .int .i64 n := hdep ⟨32, .data⟩ (by simp) rfl _ _ rfl rfl
          exact Rg.does_fn rfl (enters_of Tryd.func13 (by kernel_rfl) rfl) (args := #[b.eval (.tmp 75)]) (by simp) (by rw [d1]; exact NU v)
        | 34, _ =>
          obtain rfl := Option.some.inj ho
          have d1 : RowV (num) (b.eval (.tmp 76)) v := hdep ⟨33, .data⟩ (by simp) rfl _ _ rfl rfl
          exact Rg.does_conv rfl (conv_rv d1) (rfl)
        | 35, _ =>
          obtain rfl := Option.some.inj ho
          have d1 : b.eval (.tmp 2) = .int .i64 n := r2
          exact Rg.does_move rfl d1
        | 36, _ =>
          obtain rfl := Option.some.inj ho
          have d1 : (b.eval (.tmp 78)) = .int .i64 n := hdep ⟨35, .data⟩ (by simp) rfl _ _ rfl rfl
          exact Rg.does_fn rfl (enters_of Tryd.func14 (by kernel_rfl) rfl) (args := #[b.eval (.tmp 78)]) (by simp) (by rw [d1]; exact RN v)
        | 37, _ =>
          obtain rfl := Option.some.inj ho
          have d1 : RowV (num) (b.eval (.tmp 79)) v := hdep ⟨36, .data⟩ (by simp) rfl _ _ rfl rfl
          exact Rg.does_conv rfl (conv_rv d1) (rfl)
        | 38, _ =>
          obtain rfl := Option.some.inj ho
          have d1 : (b.eval (.tmp 77)) = .string ⟨(num).toArray⟩ := hdep ⟨34, .data⟩ (by simp) rfl _ _ rfl rfl
          have d2 : (b.eval (.tmp 80)) = .string ⟨(num).toArray⟩ := hdep ⟨37, .data⟩ (by simp) rfl _ _ rfl rfl
          have f1 : b.tmps[77]?.getD undef = _ := (show _ = b.eval (.tmp 77) by simp [Act.eval]).trans d1
          have f2 : b.tmps[80]?.getD undef = _ := (show _ = b.eval (.tmp 80) by simp [Act.eval]).trans d2
          refine Rg.does_pure (.bool false) ?_ rfl
          have hu := Tryd.underlying9
          simp only [execOp]
          go_simp
        | 39, _ =>
          obtain rfl := Option.some.inj ho
          have d1 : (b.eval (.tmp 74)) = .bool false := hdep ⟨31, .data⟩ (by simp) rfl _ _ rfl rfl
          have d2 : (b.eval (.tmp 81)) = .bool false := hdep ⟨38, .data⟩ (by simp) rfl _ _ rfl rfl
          exact Rg.does_pick rfl d1 d2
        | n + 40, h => exact absurd h (by simp)
      case fin =>
        intro b v hb hs hd hrest hall
        refine ⟨rfl, hb, fun i => b.tmps.getD i undef, ?_⟩
        have e0 : b.tmps.getD 0 undef = .slice o z.length c := hrest 0 (Rg.free_spec (by kernel_rfl))
        have e1 : b.tmps.getD 1 undef = .string s := hrest 1 (Rg.free_spec (by kernel_rfl))
        have e2 : b.tmps.getD 2 undef = .int .i64 n := hrest 2 (Rg.free_spec (by kernel_rfl))
        have e7 : b.tmps.getD 7 undef = .slice (some ⟨B1, 0, none⟩) z.length (z.length + 6) := hrest 7 (Rg.free_spec (by kernel_rfl))
        have e82 : b.tmps.getD 82 undef = .bool false := hall 39 _ 82 rfl rfl
        have e := lit_of9 b.tmps 119 hs
        obtain ⟨tm, df⟩ := b
        obtain rfl : df = [] := hd
        dsimp only at e0 e1 e2 e7 e82 e ⊢
        congr 1
        refine e.trans ?_
        rw [← e0, ← e1, ← e2, ← e7, ← e82]
        rfl
    · have hd16 : decide ((z.length : Int) ≥ 16) = false := decide_eq_false (by omega)
      have hmas : Da.isMas z.length = false := by simp [Da.isMas, h16]
      have LM : ∀ v {x : Value}, RowV z x v → Calls Tryd.prog 12 #[x] v fun e v' => ∃ r, e = .returned r ∧ r = .bool false ∧ Below v.heap.size v v' := fun v x hx => by
        have := lmas_rv hx
        rw [hmas] at this
        exact this
      clear hmas
      refine Rg.region_growO (by kernel_rfl) (LkH z kk num s n ev b9 l false) (by kernel_rfl) LkH.later ?gd ?step ?fin
      case gd =>
        intro i op k t ho hg x v hG
        have hi := (Array.getElem?_eq_some_iff.1 ho).1
        match i, hi with
        | 0, _ =>
          obtain rfl := Option.some.inj ho
          cases hg
        | 1, _ =>
          obtain rfl := Option.some.inj ho
          cases hg
        | 2, _ =>
          obtain rfl := Option.some.inj ho
          cases hg
        | 3, _ =>
          obtain rfl := Option.some.inj ho
          cases hg
        | 4, _ =>
          obtain rfl := Option.some.inj ho
          cases hg
        | 5, _ =>
          obtain rfl := Option.some.inj ho
          obtain ⟨rfl, rfl⟩ : 4 = k ∧ false = t := by simpa using hg
          exact .inl hG
        | 6, _ =>
          obtain rfl := Option.some.inj ho
          obtain ⟨rfl, rfl⟩ : 4 = k ∧ false = t := by simpa using hg
          exact .inl hG
        | 7, _ =>
          obtain rfl := Option.some.inj ho
          obtain ⟨rfl, rfl⟩ : 4 = k ∧ false = t := by simpa using hg
          exact .inl hG
        | 8, _ =>
          obtain rfl := Option.some.inj ho
          obtain ⟨rfl, rfl⟩ : 4 = k ∧ false = t := by simpa using hg
          exact .inl hG
        | 9, _ =>
          obtain rfl := Option.some.inj ho
          obtain ⟨rfl, rfl⟩ : 4 = k ∧ false = t := by simpa using hg
          exact .inl hG
        | 10, _ =>
          obtain rfl := Option.some.inj ho
          cases hg
        | 11, _ =>
          obtain rfl := Option.some.inj ho
          cases hg
        | 12, _ =>
          obtain rfl := Option.some.inj ho
          obtain ⟨rfl, rfl⟩ : 11 = k ∧ false = t := by simpa using hg
          exact .inl hG
        | 13, _ =>
          obtain rfl := Option.some.inj ho
          obtain ⟨rfl, rfl⟩ : 11 = k ∧ false = t := by simpa using hg
          exact .inl hG
        | 14, _ =>
          obtain rfl := Option.some.inj ho
          obtain ⟨rfl, rfl⟩ : 11 = k ∧ false = t := by simpa using hg
          exact .inl hG
        | 15, _ =>
          obtain rfl := Option.some.inj ho
          obtain ⟨rfl, rfl⟩ : 11 = k ∧ false = t := by simpa using hg
          exact .inl hG
        | 16, _ =>
          obtain rfl := Option.some.inj ho
          obtain ⟨rfl, rfl⟩ : 11 = k ∧ false = t := by simpa using hg
          exact .inl hG
        | 17, _ =>
          obtain rfl := Option.some.inj ho
          cases hg
        | 18, _ =>
          obtain rfl := Option.some.inj ho
          cases hg
        | 19, _ =>
          obtain rfl := Option.some.inj ho
          obtain ⟨rfl, rfl⟩ : 18 = k ∧ false = t := by simpa using hg
          exact .inl hG
        | 20, _ =>
          obtain rfl := Option.some.inj ho
          obtain ⟨rfl, rfl⟩ : 18 = k ∧ false = t := by simpa using hg
          exact .inl hG
        | 21, _ =>
          obtain rfl := Option.some.inj ho
          obtain ⟨rfl, rfl⟩ : 18 = k ∧ false = t := by simpa using hg
          exact .inl hG
        | 22, _ =>
          obtain rfl := Option.some.inj ho
          obtain ⟨rfl, rfl⟩ : 18 = k ∧ false = t := by simpa using hg
          exact .inl hG
        | 23, _ =>
          obtain rfl := Option.some.inj ho
          obtain ⟨rfl, rfl⟩ : 18 = k ∧ false = t := by simpa using hg
          exact .inl hG
        | 24, _ =>
          obtain rfl := Option.some.inj ho
          obtain ⟨rfl, rfl⟩ : 18 = k ∧ false = t := by simpa using hg
          exact .inl hG
        | 25, _ =>
          obtain rfl := Option.some.inj ho
          obtain ⟨rfl, rfl⟩ : 24 = k ∧ true = t := by simpa using hg
          exact .inr ⟨hG, fun v => rfl⟩
        | 26, _ =>
          obtain rfl := Option.some.inj ho
          obtain ⟨rfl, rfl⟩ : 24 = k ∧ true = t := by simpa using hg
          exact .inr ⟨hG, fun v => rfl⟩
        | 27, _ =>
          obtain rfl := Option.some.inj ho
          obtain ⟨rfl, rfl⟩ : 24 = k ∧ true = t := by simpa using hg
          exact .inr ⟨hG, fun v => rfl⟩
        | 28, _ =>
          obtain rfl := Option.some.inj ho
          obtain ⟨rfl, rfl⟩ : 18 = k ∧ false = t := by simpa using hg
          exact .inl hG
        | 29, _ =>
          obtain rfl := Option.some.inj ho
          obtain ⟨rfl, rfl⟩ : 18 = k ∧ false = t := by simpa using hg
          exact .inl hG
        | 30, _ =>
          obtain rfl := Option.some.inj ho
          cases hg
        | 31, _ =>
          obtain rfl := Option.some.inj ho
          cases hg
        | 32, _ =>
          obtain rfl := Option.some.inj ho
          obtain ⟨rfl, rfl⟩ : 31 = k ∧ false = t := by simpa using hg
          exact .inl hG
        | 33, _ =>
          obtain rfl := Option.some.inj ho
          obtain ⟨rfl, rfl⟩ : 31 = k ∧ false = t := by simpa using hg
          exact .inl hG
        | 34, _ =>
          obtain rfl := Option.some.inj ho
          obtain ⟨rfl, rfl⟩ : 31 = k ∧ false = t := by simpa using hg
          exact .inl hG
        | 35, _ =>
          obtain rfl := Option.some.inj ho
          obtain ⟨rfl, rfl⟩ : 31 = k ∧ false = t := by simpa using hg
          exact .inl hG
        | 36, _ =>
          obtain rfl := Option.some.inj ho
          obtain ⟨rfl, rfl⟩ : 31 = k ∧ false = t := by simpa using hg
          exact .inl hG
        | 37, _ =>
          obtain rfl := Option.some.inj ho
          obtain ⟨rfl, rfl⟩ : 31 = k ∧ false = t := by simpa using hg
          exact .inl hG
        | 38, _ =>
          obtain rfl := Option.some.inj ho
          obtain ⟨rfl, rfl⟩ : 31 = k ∧ false = t := by simpa using hg
          exact .inl hG
        | 39, _ =>
          obtain rfl := Option.some.inj ho
          cases hg
        | n + 40, h => exact absurd h (by simp)
      case step =>
        intro i op b v ho hb hrest hdep hgx
        have r9 : b.eval (.tmp 9) = ev := hrest 9 (Rg.free_spec (by kernel_rfl))
        have r11 : b.eval (.tmp 11) = .int .i64 (b9 : Int) := hrest 11 (Rg.free_spec (by kernel_rfl))
        have r8 : b.eval (.tmp 8) = x8 := hrest 8 (Rg.free_spec (by kernel_rfl))
        have r10 : b.eval (.tmp 10) = x10 := hrest 10 (Rg.free_spec (by kernel_rfl))
        have r1 : b.eval (.tmp 1) = .string s := hrest 1 (Rg.free_spec (by kernel_rfl))
        have r7 : b.eval (.tmp 7) = .slice (some ⟨B1, 0, none⟩) z.length (z.length + 6) := hrest 7 (Rg.free_spec (by kernel_rfl))
        have r0 : b.eval (.tmp 0) = .slice o z.length c := hrest 0 (Rg.free_spec (by kernel_rfl))
        have r2 : b.eval (.tmp 2) = .int .i64 n := hrest 2 (Rg.free_spec (by kernel_rfl))
        have hi := (Array.getElem?_eq_some_iff.1 ho).1
        match i, hi with
        | 0, _ =>
          obtain rfl := Option.some.inj ho
          have d1 : b.eval (.tmp 9) = ev := r9
          exact Rg.does_move rfl d1
        | 1, _ =>
          obtain rfl := Option.some.inj ho
          have d1 : (b.eval (.tmp 43)) = ev := hdep ⟨0, .data⟩ (by simp) rfl _ _ rfl rfl
          exact Rg.does_fn rfl (enters_of Tryd.func9 (by kernel_rfl) rfl) (args := #[b.eval (.tmp 43)]) (by simp) (by rw [d1]; exact NM v hb)
        | 2, _ =>
          obtain rfl := Option.some.inj ho
          have d1 : b.eval (.tmp 11) = .int .i64 (b9 : Int) := r11
          exact Rg.does_move rfl d1
        | 3, _ =>
          obtain rfl := Option.some.inj ho
          have d1 : (b.eval (.tmp 44)) = .int .i64 (b9 : Int) := hdep ⟨1, .data⟩ (by simp) rfl _ _ rfl rfl
          have d2 : (b.eval (.tmp 45)) = .int .i64 (b9 : Int) := hdep ⟨2, .data⟩ (by simp) rfl _ _ rfl rfl
          have f1 : b.tmps[44]?.getD undef = _ := (show _ = b.eval (.tmp 44) by simp [Act.eval]).trans d1
          have f2 : b.tmps[45]?.getD undef = _ := (show _ = b.eval (.tmp 45) by simp [Act.eval]).trans d2
          refine Rg.does_pure (.bool false) ?_ rfl
          simp only [execOp]
          go_simp
        | 4, _ =>
          obtain rfl := Option.some.inj ho
          have d1 : (b.eval (.tmp 46)) = .bool false := hdep ⟨3, .data⟩ (by simp) rfl _ _ rfl rfl
          exact Rg.does_move rfl d1
        | 5, _ =>
          obtain rfl := Option.some.inj ho
          have d1 : RowV (kk) (b.eval (.tmp 8)) v := by rw [r8]; exact hk8.later hb
          exact Rg.does_move rfl d1
        | 6, _ =>
          obtain rfl := Option.some.inj ho
          have d1 : RowV (kk) (b.eval (.tmp 48)) v := hdep ⟨5, .data⟩ (by simp) rfl _ _ rfl rfl
          exact Rg.does_conv rfl (conv_rv d1) (rfl)
        | 7, _ =>
          obtain rfl := Option.some.inj ho
          have d1 : RowV (kk) (b.eval (.tmp 10)) v := by rw [r10]; exact hk10.later hb
          exact Rg.does_move rfl d1
        | 8, _ =>
          obtain rfl := Option.some.inj ho
          have d1 : RowV (kk) (b.eval (.tmp 50)) v := hdep ⟨7, .data⟩ (by simp) rfl _ _ rfl rfl
          exact Rg.does_conv rfl (conv_rv d1) (rfl)
        | 9, _ =>
          obtain rfl := Option.some.inj ho
          have d1 : (b.eval (.tmp 49)) = .string ⟨(kk).toArray⟩ := hdep ⟨6, .data⟩ (by simp) rfl _ _ rfl rfl
          have d2 : (b.eval (.tmp 51)) = .string ⟨(kk).toArray⟩ := hdep ⟨8, .data⟩ (by simp) rfl _ _ rfl rfl
          have f1 : b.tmps[49]?.getD undef = _ := (show _ = b.eval (.tmp 49) by simp [Act.eval]).trans d1
          have f2 : b.tmps[51]?.getD undef = _ := (show _ = b.eval (.tmp 51) by simp [Act.eval]).trans d2
          refine Rg.does_pure (.bool false) ?_ rfl
          have hu := Tryd.underlying9
          simp only [execOp]
          go_simp
        | 10, _ =>
          obtain rfl := Option.some.inj ho
          have d1 : (b.eval (.tmp 47)) = .bool false := hdep ⟨4, .data⟩ (by simp) rfl _ _ rfl rfl
          have d2 : (b.eval (.tmp 52)) = .bool false := hdep ⟨9, .data⟩ (by simp) rfl _ _ rfl rfl
          exact Rg.does_pick rfl d1 d2
        | 11, _ =>
          obtain rfl := Option.some.inj ho
          have d1 : (b.eval (.tmp 53)) = .bool false := hdep ⟨10, .data⟩ (by simp) rfl _ _ rfl rfl
          exact Rg.does_move rfl d1
        | 12, _ =>
          obtain rfl := Option.some.inj ho
          have d1 : b.eval (.tmp 1) = .string s := r1
          exact Rg.does_move rfl d1
        | 13, _ =>
          obtain rfl := Option.some.inj ho
          have d1 : (b.eval (.tmp 55)) = .string s := hdep ⟨12, .data⟩ (by simp) rfl _ _ rfl rfl
          exact Rg.does_fn rfl (enters_of Tryd.func10 (by kernel_rfl) rfl) (args := #[b.eval (.tmp 55)]) (by simp) (by rw [d1]; exact LL v)
        | 14, _ =>
          obtain rfl := Option.some.inj ho
          have d1 : b.eval (.tmp 1) = .string s := r1
          exact Rg.does_move rfl d1
        | 15, _ =>
          obtain rfl := Option.some.inj ho
          have d1 : (b.eval (.tmp 57)) = .string s := hdep ⟨14, .data⟩ (by simp) rfl _ _ rfl rfl
          exact Rg.does_fn rfl (enters_of Tryd.func11 (by kernel_rfl) rfl) (args := #[b.eval (.tmp 57)]) (by simp) (by rw [d1]; exact RL v)
        | 16, _ =>
          obtain rfl := Option.some.inj ho
          have d1 : (b.eval (.tmp 56)) = .bool l := hdep ⟨13, .data⟩ (by simp) rfl _ _ rfl rfl
          have d2 : (b.eval (.tmp 58)) = .bool l := hdep ⟨15, .data⟩ (by simp) rfl _ _ rfl rfl
          have f1 : b.tmps[56]?.getD undef = _ := (show _ = b.eval (.tmp 56) by simp [Act.eval]).trans d1
          have f2 : b.tmps[58]?.getD undef = _ := (show _ = b.eval (.tmp 58) by simp [Act.eval]).trans d2
          refine Rg.does_pure (.bool false) ?_ rfl
          simp only [execOp]
          go_simp
        | 17, _ =>
          obtain rfl := Option.some.inj ho
          have d1 : (b.eval (.tmp 54)) = .bool false := hdep ⟨11, .data⟩ (by simp) rfl _ _ rfl rfl
          have d2 : (b.eval (.tmp 59)) = .bool false := hdep ⟨16, .data⟩ (by simp) rfl _ _ rfl rfl
          exact Rg.does_pick rfl d1 d2
        | 18, _ =>
          obtain rfl := Option.some.inj ho
          have d1 : (b.eval (.tmp 60)) = .bool false := hdep ⟨17, .data⟩ (by simp) rfl _ _ rfl rfl
          exact Rg.does_move rfl d1
        | 19, _ =>
          obtain rfl := Option.some.inj ho
          have d1 : RowV (z) (b.eval (.tmp 7)) v := by rw [r7]; exact hin.later hb
          exact Rg.does_move rfl d1
        | 20, _ =>
          obtain rfl := Option.some.inj ho
          have d1 : RowV (z) (b.eval (.tmp 62)) v := hdep ⟨19, .data⟩ (by simp) rfl _ _ rfl rfl
          exact Rg.does_fn rfl (enters_of Tryd.func12 (by kernel_rfl) rfl) (args := #[b.eval (.tmp 62)]) (by simp) (LM v d1)
        | 21, _ =>
          obtain rfl := Option.some.inj ho
          have d1 : RowV (z) (b.eval (.tmp 0)) v := by rw [r0]; exact hz.later hb
          exact Rg.does_move rfl d1
        | 22, _ =>
          obtain rfl := Option.some.inj ho
          have d1 : RowV (z) (b.eval (.tmp 64)) v := hdep ⟨21, .data⟩ (by simp) rfl _ _ rfl rfl
          obtain ⟨o3, c3, e3, hr3⟩ := d1
          have f1 : b.tmps[64]?.getD undef = _ := (show _ = b.eval (.tmp 64) by simp [Act.eval]).trans e3
          refine Rg.does_pure (.int .i64 ((z).length : Int)) ?_ rfl
          simp only [execOp]
          go_simp
        | 23, _ =>
          obtain rfl := Option.some.inj ho
          have d1 : (b.eval (.tmp 65)) = .int .i64 ((z).length : Int) := hdep ⟨22, .data⟩ (by simp) rfl _ _ rfl rfl
          have f1 : b.tmps[65]?.getD undef = _ := (show _ = b.eval (.tmp 65) by simp [Act.eval]).trans d1
          refine Rg.does_pure (.bool false) ?_ rfl
          simp only [execOp]
          go_simp
        | 24, _ =>
          obtain rfl := Option.some.inj ho
          have d1 : (b.eval (.tmp 66)) = .bool false := hdep ⟨23, .data⟩ (by simp) rfl _ _ rfl rfl
          exact Rg.does_move rfl d1
        | 25, _ =>
          obtain rfl := Option.some.inj ho
          obtain ⟨x, hx, hG⟩ := hgx _ _ rfl
          rw [hx] at hG
          cases hG
        | 26, _ =>
          obtain rfl := Option.some.inj ho
          obtain ⟨x, hx, hG⟩ := hgx _ _ rfl
          rw [hx] at hG
          cases hG
        | 27, _ =>
          obtain rfl := Option.some.inj ho
          obtain ⟨x, hx, hG⟩ := hgx _ _ rfl
          rw [hx] at hG
          cases hG
        | 28, _ =>
          obtain rfl := Option.some.inj ho
          have d1 : (b.eval (.tmp 67)) = .bool false := hdep ⟨24, .data⟩ (by simp) rfl _ _ rfl rfl
          exact Rg.does_pick rfl d1 rfl
        | 29, _ =>
          obtain rfl := Option.some.inj ho
          have d1 : (b.eval (.tmp 63)) = .bool false := hdep ⟨20, .data⟩ (by simp) rfl _ _ rfl rfl
          have d2 : (b.eval (.tmp 71)) = .bool false := hdep ⟨28, .data⟩ (by simp) rfl _ _ rfl rfl
          have f1 : b.tmps[63]?.getD undef = _ := (show _ = b.eval (.tmp 63) by simp [Act.eval]).trans d1
          have f2 : b.tmps[71]?.getD undef = _ := (show _ = b.eval (.tmp 71) by simp [Act.eval]).trans d2
          refine Rg.does_pure (.bool false) ?_ rfl
          simp only [execOp]
          go_simp
        | 30, _ =>
          obtain rfl := Option.some.inj ho
          have d1 : (b.eval (.tmp 61)) = .bool false := hdep ⟨18, .data⟩ (by simp) rfl _ _ rfl rfl
          have d2 : (b.eval (.tmp 72)) = .bool false := hdep ⟨29, .data⟩ (by simp) rfl _ _ rfl rfl
          exact Rg.does_pick rfl d1 d2
        | 31, _ =>
          obtain rfl := Option.some.inj ho
          have d1 : (b.eval (.tmp 73)) = .bool false := hdep ⟨30, .data⟩ (by simp) rfl _ _ rfl rfl
          exact Rg.does_move rfl d1
        | 32, _ =>
          obtain rfl := Option.some.inj ho
          have d1 : b.eval (.tmp 2) = .int .i64 n := r2
          exact Rg.does_move rfl d1
        | 33, _ =>
          obtain rfl := Option.some.inj ho
          have d1 : (b.eval (.tmp 75)) = .int .i64 n := hdep ⟨32, .data⟩ (by simp) rfl _ _ rfl rfl
          exact Rg.does_fn rfl (enters_of Tryd.func13 (by kernel_rfl) rfl) (args := #[b.eval (.tmp 75)]) (by simp) (by rw [d1]; exact NU v)
        | 34, _ =>
          obtain rfl := Option.some.inj ho
          have d1 : RowV (num) (b.eval (.tmp 76)) v := hdep ⟨33, .data⟩ (by simp) rfl _ _ rfl rfl
          exact Rg.does_conv rfl (conv_rv d1) (rfl)
        | 35, _ =>
          obtain rfl := Option.some.inj ho
          have d1 : b.eval (.tmp 2) = .int .i64 n := r2
          exact Rg.does_move rfl d1
        | 36, _ =>
          obtain rfl := Option.some.inj ho
          have d1 : (b.eval (.tmp 78)) = .int .i64 n := hdep ⟨35, .data⟩ (by simp) rfl _ _ rfl rfl
          exact Rg.does_fn rfl (enters_of Tryd.func14 (by kernel_rfl) rfl) (args := #[b.eval (.tmp 78)]) (by simp) (by rw [d1]; exact RN v)
        | 37, _ =>
          obtain rfl := Option.some.inj ho
          have d1 : RowV (num) (b.eval (.tmp 79)) v := hdep ⟨36, .data⟩ (by simp) rfl _ _ rfl rfl
          exact Rg.does_conv rfl (conv_rv d1) (rfl)
        | 38, _ =>
          obtain rfl := Option.some.inj ho
          have d1 : (b.eval (.tmp 77)) = .string ⟨(num).toArray⟩ := hdep ⟨34, .data⟩ (by simp) rfl _ _ rfl rfl
          have d2 : (b.eval (.tmp 80)) = .string ⟨(num).toArray⟩ := hdep ⟨37, .data⟩ (by simp) rfl _ _ rfl rfl
          have f1 : b.tmps[77]?.getD undef = _ := (show _ = b.eval (.tmp 77) by simp [Act.eval]).trans d1
          have f2 : b.tmps[80]?.getD undef = _ := (show _ = b.eval (.tmp 80) by simp [Act.eval]).trans d2
          refine Rg.does_pure (.bool false) ?_ rfl
          have hu := Tryd.underlying9
          simp only [execOp]
          go_simp
        | 39, _ =>
          obtain rfl := Option.some.inj ho
          have d1 : (b.eval (.tmp 74)) = .bool false := hdep ⟨31, .data⟩ (by simp) rfl _ _ rfl rfl
          have d2 : (b.eval (.tmp 81)) = .bool false := hdep ⟨38, .data⟩ (by simp) rfl _ _ rfl rfl
          exact Rg.does_pick rfl d1 d2
        | n + 40, h => exact absurd h (by simp)
      case fin =>
        intro b v hb hs hd hrest hall
        refine ⟨rfl, hb, fun i => b.tmps.getD i undef, ?_⟩
        have e0 : b.tmps.getD 0 undef = .slice o z.length c := hrest 0 (Rg.free_spec (by kernel_rfl))
        have e1 : b.tmps.getD 1 undef = .string s := hrest 1 (Rg.free_spec (by kernel_rfl))
        have e2 : b.tmps.getD 2 undef = .int .i64 n := hrest 2 (Rg.free_spec (by kernel_rfl))
        have e7 : b.tmps.getD 7 undef = .slice (some ⟨B1, 0, none⟩) z.length (z.length + 6) := hrest 7 (Rg.free_spec (by kernel_rfl))
        have e82 : b.tmps.getD 82 undef = .bool false := hall 39 _ 82 rfl rfl
        have e := lit_of9 b.tmps 119 hs
        obtain ⟨tm, df⟩ := b
        obtain rfl : df = [] := hd
        dsimp only at e0 e1 e2 e7 e82 e ⊢
        congr 1
        refine e.trans ?_
        rw [← e0, ← e1, ← e2, ← e7, ← e82]
        rfl
  case rest =>
    rintro e b V ⟨rfl, hb, f, rfl⟩
    have HBV := Lib.hid (Kit.step HB4.out hb)
    have HMV := Lib.hid (HM4.out.later hb)
    clear hb HM4 HB4 HX84 HX10 HNM hs63
    obtain ⟨ba, hba⟩ : ∃ b, Da.abad (Da.isMas z.length) (Da.inR n) = b := ⟨_, rfl⟩
    have hbal : ba ≤ 9 := by rw [← hba]; unfold Da.abad; split <;> (try split) <;> omega
    obtain ⟨L, hL⟩ : ∃ L, Da.ares ba (Da.keysL z n) = L := ⟨_, rfl⟩
    have hLl : L.length = 5 := by rw [← hL]; unfold Da.ares; split <;> rfl
    obtain ⟨ea, hea⟩ : ∃ ea, errV A ba = ea := ⟨_, rfl⟩
    have LA := lall_any z (some ⟨B1, 0, none⟩) (z.length + 6) n A V (HMV.out.row (by unfold maxLen; omega)) (HC.out.later HBV.out) (HE.out.later HBV.out).nine (by omega)
    rw [hba, hL, hea] at LA
    have HLA := Lib.hid LA
    have RA : Hid (∀ v, Below W.heap.size W v → Calls Tryd.prog 16 #[.slice o z.length c, .int .i64 n] v fun e w' => ∃ xs : List Value, e = .returned (.tuple #[.agg xs.toArray, .int .i64 (ba : Int)]) ∧ Els w' L xs ∧ Below v.heap.size v w') := Lib.hid fun v hv => by
      have := rall9_any z o c n v (HK.out.later hv) (HD.out.later hv) (by omega)
      rw [hba, hL] at this
      exact this
    have HNM : Hid (∀ v, Below W.heap.size W v → Calls Tryd.prog 9 #[ea] v fun e v' => e = .returned (.int .i64 (ba : Int)) ∧ Below v.heap.size v v') := Lib.hid fun v hv => by
      rw [← hea]
      exact Er.num_any A ba (by omega) v (HE.out.later hv)
    have HLL := Lib.hid hLl
    clear hba hL hea LA hLl
    go_upto_region 10 with fail
    apply wp_region_lit
    (refine wpList_plain rfl (fun K hK => ?_); go_simp; refine hK _ _ ?_; clear hK K)
    (refine wpList_plain rfl (fun K hK => ?_); go_simp; refine hK _ _ ?_; clear hK K)
    (refine wpList_plain rfl (fun K hK => ?_); go_simp)
    refine HLA.out.mono ?_
    rintro e X5 ⟨xs, rfl, hxs, hb5⟩
    refine hK _ _ ?_
    clear hK K HLA
    have hxl : xs.length = 5 := hxs.len.trans HLL.out
    obtain ⟨F, hF⟩ : ∃ F : Array Value, xs.toArray = F := ⟨_, rfl⟩
    obtain ⟨g, hg⟩ : ∃ g, X5.heap.size = g := ⟨_, rfl⟩
    obtain ⟨X6, hX6⟩ : ∃ X6, X5.alloc (.cells Z 36) = X6 := ⟨_, rfl⟩
    obtain ⟨X7, hX7⟩ : ∃ X7, X6.setRow g F = X7 := ⟨_, rfl⟩
    have hA6 : Arr X6 g 36 Z.toList := by rw [← hX6, ← hg]; exact Arr.made _ _ _
    have hA7 : Arr X7 g 36 xs := by rw [← hX7]; unfold Arr; rw [hF]; exact setRow_heap _ _ _ _ _ _ hA6
    have hb7 : Below X5.heap.size X5 X7 := by rw [← hX7, ← hX6]; exact ((Below.refl _ _).alloc (Nat.le_refl _) _).trans (below_row (by omega))
    have HA6 : Hid (X6.heap[g]? = some (.cells Z 36 (0, 0))) := Lib.hid hA6
    have HFS : Hid ((Tryd.prog.info? 36).map (·.size) = some F.size) := Lib.hid (by rw [lk_info, ← hF]; simp [hxl])
    have HFZ : Hid (Z.size = F.size) := Lib.hid (by rw [HZ.out, ← hF]; simp [hxl]; rfl)
    have HFO : Hid (F.all (·.oneCell') = true) := Lib.hid (by rw [← hF]; exact all_oneCell_toArray hxs.ones)
    have HB7 := Lib.hid (Kit.step HBV.out (Kit.step hb5 hb7))
    have HM7 := Lib.hid (HMV.out.later (Kit.step hb5 hb7))
    have HE7 := Lib.hid (hxs.later hb7)
    have HA7 := Lib.hid hA7
    have HF := Lib.hid hF
    have HX6 := Lib.hid hX6
    have HX7 := Lib.hid hX7
    have HGG := Lib.hid hg
    rw [hF]
    clear hxs hxl hF hX6 hX7 hA6 hA7 hb7 hb5 HBV HMV hg
    (refine wpList_plain rfl (fun K hK => ?_); go_simp; refine hK _ _ ?_; clear hK K)
    (refine wpList_plain rfl (fun K hK => ?_); go_simp; refine hK _ _ ?_; clear hK K)
    (refine wpList_plain rfl (fun K hK => ?_); go_simp; refine hK _ _ ?_; clear hK K)
    (refine wpList_plain rfl (fun K hK => ?_); go_simp; refine hK _ _ ?_; clear hK K)
    rw [HX6.out, HGG.out]
    refine wpList_store_rowTo rfl 36 (.tmp 12) (.tmp 87) rfl rfl g F rfl rfl 36 Z HA6.out HFS.out HFZ.out HFO.out ?_
    rw [HX7.out]
    clear HX6 HX7 HA6 HFZ HGG
    go_upto_region 11 with fail
    apply wp_region_lit
    (refine wpList_plain rfl (fun K hK => ?_); go_simp; refine hK _ _ ?_; clear hK K)
    (refine wpList_plain rfl (fun K hK => ?_); go_simp; refine hK _ _ ?_; clear hK K)
    (refine wpList_plain rfl (fun K hK => ?_); go_simp)
    refine (RA.out X7 HB7.out).mono ?_
    rintro e X8 ⟨ys, rfl, hys, hb8⟩
    refine hK _ _ ?_
    clear hK K RA
    have hyl : ys.length = 5 := hys.len.trans HLL.out
    obtain ⟨D, hD2⟩ : ∃ D : Array Value, ys.toArray = D := ⟨_, rfl⟩
    obtain ⟨q0, hq0⟩ : ∃ q, X8.heap.size = q := ⟨_, rfl⟩
    obtain ⟨X9, hX9⟩ : ∃ X9, X8.alloc (.cells Y 39) = X9 := ⟨_, rfl⟩
    obtain ⟨Xa, hXa⟩ : ∃ Xa, X9.setRow q0 D = Xa := ⟨_, rfl⟩
    have hA9 : Arr X9 q0 39 Y.toList := by rw [← hX9, ← hq0]; exact Arr.made _ _ _
    have hAa : Arr Xa q0 39 ys := by rw [← hXa]; unfold Arr; rw [hD2]; exact setRow_heap _ _ _ _ _ _ hA9
    have hba : Below X8.heap.size X8 Xa := by rw [← hXa, ← hX9]; exact ((Below.refl _ _).alloc (Nat.le_refl _) _).trans (below_row (by omega))
    have HA9 : Hid (X9.heap[q0]? = some (.cells Y 39 (0, 0))) := Lib.hid hA9
    have HDS : Hid ((Tryd.prog.info? 39).map (·.size) = some D.size) := Lib.hid (by rw [k5_info, ← hD2]; simp [hyl])
    have HDZ : Hid (Y.size = D.size) := Lib.hid (by rw [HY.out, ← hD2]; simp [hyl]; rfl)
    have HDO : Hid (D.all (·.oneCell') = true) := Lib.hid (by rw [← hD2]; exact all_oneCell_toArray hys.ones)
    have hb7a := Kit.step hb8 hba
    have HBa := Lib.hid (Kit.step HB7.out hb7a)
    have HMa := Lib.hid (HM7.out.later hb7a)
    have HEa := Lib.hid (HE7.out.later hb7a)
    have HA7a := Lib.hid (HA7.out.later hb7a HA7.out.lt)
    have HYa := Lib.hid (hys.later hba)
    have HAa := Lib.hid hAa
    have HX9 := Lib.hid hX9
    have HXa := Lib.hid hXa
    have HQ0 := Lib.hid hq0
    rw [hD2]
    clear hys hyl hX9 hXa hA9 hAa hba hb8 hb7a HB7 HM7 HE7 HA7 hq0 hD2
    (refine wpList_plain rfl (fun K hK => ?_); go_simp; refine hK _ _ ?_; clear hK K)
    (refine wpList_plain rfl (fun K hK => ?_); go_simp; refine hK _ _ ?_; clear hK K)
    (refine wpList_plain rfl (fun K hK => ?_); go_simp; refine hK _ _ ?_; clear hK K)
    (refine wpList_plain rfl (fun K hK => ?_); go_simp; refine hK _ _ ?_; clear hK K)
    rw [HX9.out, HQ0.out]
    refine wpList_store_rowTo rfl 39 (.tmp 13) (.tmp 93) rfl rfl q0 D rfl rfl 39 Y HA9.out HDS.out HDZ.out HDO.out ?_
    rw [HXa.out]
    clear HX9 HXa HA9 HDZ HQ0
    have NM := Lib.hid (HNM.out Xa HBa.out)
    go_wp2_with fail
    refine NM.out.mono ?_
    rintro e Xb ⟨rfl, hbb⟩
    have HBb := Lib.hid (Kit.step HBa.out hbb)
    have HEb := Lib.hid (HEa.out.later hbb)
    have HA7b := Lib.hid (HA7a.out.later hbb HA7a.out.lt)
    have HYb := Lib.hid (HYa.out.later hbb)
    have HAb := Lib.hid (HAa.out.later hbb HAa.out.lt)
    have KE := Lib.hid (kept_any z B1 o c Xb (HMa.out.later hbb) (HK.out.later HBb.out) (by omega))
    clear hbb NM HBa HEa HA7a HYa HAa HMa
    go_wp2_with fail
    refine KE.out.mono ?_
    rintro e Xc ⟨rfl, nd, rfl⟩
    have HBc := Lib.hid (Kit.dn HBb.out nd)
    have hdn := Kit.dn' Xb nd
    have HEc := Lib.hid (HEb.out.later hdn)
    have HA7c := Lib.hid (HA7b.out.later hdn HA7b.out.lt)
    have HYc := Lib.hid (HYb.out.later hdn)
    have HAc := Lib.hid (HAb.out.later hdn HAb.out.lt)
    obtain ⟨Xd, hXd⟩ : ∃ Xd, Xb.drewN nd = Xd := ⟨_, rfl⟩
    rw [hXd] at HBc HEc HA7c HYc HAc
    try rw [hXd]
    clear hdn hXd KE HBb HEb HA7b HYb HAb
    go_upto_region 14 with fail
    have hx5 := HEc.out.five HLL.out
    have LR : Hid (∀ v, Calls Tryd.prog 18 #[.agg F] v fun e w' => e = .returned (.agg F) ∧ Below v.heap.size v w') := Lib.hid fun v => by rw [← HF.out]; exact lrow_any xs hx5 v
    apply wp_region_lit
    refine wpList_load_row rfl 36 (.tmp 12) rfl g rfl 36 F (0, 0) _ (by rw [← HF.out]; exact HA7c.out) Tryd.underlying36 rfl HFS.out ?_
    (refine wpList_plain rfl (fun K hK => ?_); go_simp)
    refine (LR.out Xd).mono ?_
    rintro e Xe ⟨rfl, hbe⟩
    refine hK _ _ ?_
    clear hK K
    have HBe := Lib.hid (Kit.step HBc.out hbe)
    have HEe := Lib.hid (HEc.out.later hbe)
    have HYe := Lib.hid (HYc.out.later hbe)
    have HAe := Lib.hid (HAc.out.later hbe HAc.out.lt)
    clear hbe hx5 LR HBc HEc HYc HAc HA7c
    go_wp2_with fail
    go_loopw [107] (fun i wr => Lk9 Xe i wr) (fun i _ => 5 - (intOf i).toNat)
    case atStart => exact ⟨0, by omega, rfl, Below.refl _ _⟩
    case round =>
      rename World => V1
      obtain ⟨q, hq, rfl, hb⟩ := hrel
      by_cases hlt : q < 5
      · have hd1 : decide ((q : Int) < 5) = true := decide_eq_true (by omega)
        have hql : (q : Int) < 5 := by omega
        have hq0 : (0 : Int) ≤ (q : Int) := by omega
        obtain ⟨x, hx1, hx2⟩ := (HEe.out.later hb).get q (by rw [HLL.out]; exact hlt)
        obtain ⟨y, hy1, hy2⟩ := (HYe.out.later hb).get q (by rw [HLL.out]; exact hlt)
        have hIX : ∀ W, (Instr.index 39 (.agg F) (.int .i64 (q : Int))).run Tryd.prog W = .ok x W := run_index_one _ _ 5 F q _ k5_under (by kernel_rfl) (fun W => by kernel_rfl) hlt (by rw [← HF.out, List.getElem?_toArray]; exact hx1)
        obtain ⟨L0, hL0⟩ : ∃ L0, bi L q = L0 := ⟨_, rfl⟩
        rw [hL0] at hx2 hy2
        obtain ⟨T, hT⟩ : ∃ T : ByteArray, ⟨L0.toArray⟩ = T := ⟨_, rfl⟩
        have CX : Hid (∀ v, Below V1.heap.size V1 v → (convert 22 9 x).run Tryd.prog v = .ok (.string T) v) := Lib.hid fun v hv => by rw [← hT]; exact conv_rv (hx2.later hv)
        have CV : Hid (∀ v, Below V1.heap.size V1 v → (convert 22 9 y).run Tryd.prog v = .ok (.string T) v) := Lib.hid fun v hv => by rw [← hT]; exact conv_rv (hy2.later hv)
        have hA1 := HAe.out.later hb HAe.out.lt
        have CY : Hid (∀ v, Below V1.heap.size V1 v → v.cell? ⟨q0, q, none⟩ = some y) := Lib.hid fun v hv => by rw [(hA1.later hv hA1.lt).cell]; exact hy1
        obtain ⟨ox, cx, rfl, _⟩ := hx2
        obtain ⟨oy, cy, rfl, _⟩ := hy2
        have HB := Lib.hid hb
        clear hx1 hy1 hL0 hT hA1 hb
        go_upto_region 17 with fail
        obtain ⟨C, hCC⟩ : ∃ C : World → Prop, (fun v => Below V1.heap.size V1 v) = C := ⟨_, rfl⟩
        have hC0 : C { V1 with drawn := V1.drawn + 1 } := by rw [← hCC]; exact Kit.dn' V1 1
        have HCm : Hid (∀ v, C v → Below V1.heap.size V1 v) := Lib.hid fun v hv => by rw [← hCC] at hv; exact hv
        clear hCC
        refine wp_region_quiet (C := C) (by kernel_rfl) (by kernel_rfl) hC0 ?_
        simp only
        (refine wpQuiet_step (fun K hK => ?_); refine St.qk_val (x := ?_) (by rfl) (fun w hw => ?_) ?_; rotate_left; (· go_simp <;> with_reducible rfl); go_simp; refine hK _ ?_; clear hK K)
        (refine wpQuiet_step (fun K hK => ?_); refine St.qk_val (x := .string T) (by rfl) (fun w hw => St.exec_conv rfl (CX.out w (HCm.out w hw))) ?_; go_simp; refine hK _ ?_; clear hK K)
        (refine wpQuiet_step (fun K hK => ?_); refine St.qk_val (x := ?_) (by rfl) (fun w hw => ?_) ?_; rotate_left; (· go_simp <;> with_reducible rfl); go_simp; refine hK _ ?_; clear hK K)
        (refine wpQuiet_step (fun K hK => ?_); refine St.qk_val (x := ?_) (by rfl) (fun w hw => ?_) ?_; rotate_left; (· go_simp <;> with_reducible rfl); go_simp; refine hK _ ?_; clear hK K)
        (refine wpQuiet_step (fun K hK => ?_); refine St.qk_val (x := .slice oy L0.length cy) (by rfl) (fun w hw => by have hcc := CY.out w (HCm.out w hw); go_simp) ?_; go_simp; refine hK _ ?_; clear hK K)
        (refine wpQuiet_step (fun K hK => ?_); refine St.qk_val (x := .string T) (by rfl) (fun w hw => St.exec_conv rfl (CV.out w (HCm.out w hw))) ?_; go_simp; refine hK _ ?_; clear hK K)
        (refine wpQuiet_step (fun K hK => ?_); refine St.qk_val (x := ?_) (by rfl) (fun w hw => ?_) ?_; rotate_left; (· go_simp <;> with_reducible rfl); go_simp; refine hK _ ?_; clear hK K)
        refine wpQuiet_nil ?_
        intro X8 hX8
        have HB8 := Lib.hid (Kit.step HB.out (HCm.out X8 hX8))
        clear hX8 hC0 HCm CX CV CY
        go_wp2_with fail
        exact ⟨⟨q + 1, by omega, by go_num, HB8.out⟩, by simp [intOf]; omega⟩
      · obtain rfl : q = 5 := by omega
        have hd1 : decide (((5 : Nat) : Int) < 5) = false := by decide
        have HB := Lib.hid hb
        clear hb
        go_wp2_with fail
        go_ret
        exact ⟨rfl, Kit.step HBe.out HB.out⟩
theorem lk_any (z : List UInt8) (o : Option Addr) (c : Nat) (s : ByteArray) (n : Int) (A : Nat → Addr) (W : World) (hK : RowIs W o (bytesV z) c) (hs63 : s.size ≤ 9223372036854775807) (hC : Cds W) (hD : Rds W) (hE : Er.Errs W A) :
    Calls Tryd.prog 3 #[.slice o z.length c, .string s, .int .i64 n] W fun e w' => e = .returned (.bool true) ∧ Below W.heap.size W w' := lk_of _ _ rfl lk_zero rfl k5_zero z o c s n A W hK hs63 hC hD hE
end Go.Proofs.YtemngcifeglpmaaDoor
