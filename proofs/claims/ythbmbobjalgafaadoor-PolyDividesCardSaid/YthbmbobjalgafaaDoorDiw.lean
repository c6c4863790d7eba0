/- The walk of PolyDivides. -/
import Derived.Test.YthbmbobjalgafaaDoorDv
import Derived.Test.YthbmbobjalgafaaDoorRw
namespace Go.Proofs.YthbmbobjalgafaaDoor
open Go.RowKit
set_option linter.unusedVariables false
set_option linter.unusedSimpArgs false
/-- what each operation of the region has as its result -/
def DwG (p q Y R : List UInt8) (i : Nat) (x : Value) (v : World) : Prop :=
  match i with
  | 0 | 1 | 3 => RowV (Y) (x) v
  | 2 | 4 => (x) = .string ⟨(Y).toArray⟩
  | 7 | 8 | 10 => RowV (R) (x) v
  | 9 | 11 => (x) = .string ⟨(R).toArray⟩
  | _ => (x) = .bool true
theorem DwG.later {p q Y R : List UInt8} (i : Nat) (x : Value) (v v' : World) (h : DwG p q Y R i x v) (hb : Below v.heap.size v v') : DwG p q Y R i x v' := by
  unfold DwG at *
  split at h <;> first | exact h | exact h.later hb
/-- what each operation of the region has as its result -/
def DxG (p q Y R : List UInt8) (i : Nat) (x : Value) (v : World) : Prop :=
  match i with
  | 0 => (x) = .nilIface
  | 6 | 16 => RowV (R) (x) v
  | 7 => (x) = .int .i64 ((R).length : Int)
  | 8 => RowV (tr q) (x) v
  | 9 => (x) = .int .i64 ((tr q).length : Int)
  | 13 => RowV (Y) (x) v
  | 14 => RowV (q) (x) v
  | 15 => RowV (tr (mulL Y q)) (x) v
  | 17 | 20 => RowV (tr p) (x) v
  | 18 | 21 => (x) = .string ⟨(tr p).toArray⟩
  | 19 => RowV (p) (x) v
  | _ => (x) = .bool true
theorem DxG.later {p q Y R : List UInt8} (i : Nat) (x : Value) (v v' : World) (h : DxG p q Y R i x v) (hb : Below v.heap.size v v') : DxG p q Y R i x v' := by
  unfold DxG at *
  split at h <;> first | exact h | exact h.later hb
theorem div_back {p q Y R : List UInt8} (h : DivOf p q Y R) : tr (addL (tr (mulL Y q)) R) = tr p :=
  tr_congr fun k => by rw [co_addL, co_tr, h.eq]
set_option maxRecDepth 100000 in
set_option maxHeartbeats 4000000 in
theorem diw_short (p q : List UInt8) (o o2 : Option Addr) (c c2 : Nat) (w : World) (hP : RowIs w o (bytesV p) c) (hQ : RowIs w o2 (bytesV q) c2) (hl1 : p.length ≤ 80) (hl2 : q.length ≤ 80) (h0 : (tr q).length ≠ 0) :
    Calls Tryd.prog 3 #[.slice o p.length c, .slice o2 q.length c2] w fun e w' => e = .returned (.bool true) ∧ Below w.heap.size w w' := by
  have HP := Lib.hid hP
  have HQ := Lib.hid hQ
  clear hP hQ
  have htq := tr_le q
  go_enter Tryd.func3, Tryd.ntmps3
  go_wp2_with fail
  refine (alive2_any _).mono ?_; rintro e w1 ⟨rfl, hg⟩
  have HG := Lib.hid hg
  clear hg
  go_wp2_with fail
  refine (div_any p q o o2 c c2 _ (HP.out.later HG.out) (HQ.out.later HG.out) (by omega) (by omega) h0).mono ?_; rintro e w2 ⟨Y, R, x, y, hD, hyl, rfl, hY, hR, hg⟩
  have HG2 := Lib.hid (Kit.step HG.out hg)
  have HD := Lib.hid hD
  have HY := Lib.hid hY
  have HR := Lib.hid hR
  clear hg hD hY hR
  go_wp2_with fail
  have hrt := rtrim_rv (⟨_, _, rfl, HQ.out.later HG2.out⟩ : RowV q (.slice o2 q.length c2) w2) (by omega)
  refine hrt.mono ?_; rintro e w3 ⟨t, rfl, ht, hg⟩
  have HG3 := Lib.hid (Kit.step HG2.out hg)
  have HT := Lib.hid ht
  have HY3 := Lib.hid (HY.out.later hg)
  have HR3 := Lib.hid (HR.out.later hg)
  obtain ⟨o8, c8, rfl, _⟩ := ht
  have ht0 : ¬ ((tr q).length : Int) = 0 := by omega
  have ht1 : (((tr q).length : Int) == 0) = false := by simpa using h0
  clear hg hrt HY HR
  go_wp2_with fail
  obtain ⟨t, ht⟩ : ∃ t : Value, .slice o8 (tr q).length c8 = t := ⟨_, rfl⟩
  rw [ht] at HT ⊢
  clear ht ht0 ht1
  have hY := HY3.out
  have hR := HR3.out
  have TA := HD.out.trimA
  have TB := HD.out.trimB
  have hless := HD.out.less
  refine Code.wp_mono (Q := fun e b v => e = .normal ∧ Below w3.heap.size w3 v ∧ ∃ f : Nat → Value, b = { tmps := #[.slice o p.length c, .slice o2 q.length c2, f 2, f 3, f 4, x, y, .nilIface, t, .bool true, f 10, f 11, f 12, f 13, f 14, f 15, f 16, f 17, f 18, f 19, f 20, f 21, f 22, f 23, f 24, f 25, f 26, f 27, f 28, f 29, f 30, f 31, f 32, f 33, f 34, f 35, f 36, f 37, f 38, f 39, f 40, f 41, f 42, f 43, f 44, f 45, f 46, f 47, f 48, f 49, f 50, f 51, f 52, f 53, f 54, f 55, f 56, f 57, f 58, f 59, f 60, f 61, f 62, f 63, f 64, f 65, f 66, f 67, f 68, f 69, f 70, f 71, f 72, f 73, f 74, f 75, f 76, f 77, f 78, f 79, f 80, f 81, f 82], defers := [] }) ?rest ?reg
  case reg =>
    refine Rg.region_grow (by kernel_rfl) (DwG p q Y R) (by kernel_rfl) DwG.later ?gd ?step ?fin
    case gd =>
      intro i op k t ho hg x v hG
      have hi := (Array.getElem?_eq_some_iff.1 ho).1
      match i, hi with
      | 0, _ =>
        obtain rfl := Option.some.inj ho
        cases hg
      | 1, _ =>
        obtain rfl := Option.some.inj ho
        cases hg
      | 2, _ =>
        obtain rfl := Option.some.inj ho
        cases hg
      | 3, _ =>
        obtain rfl := Option.some.inj ho
        cases hg
      | 4, _ =>
        obtain rfl := Option.some.inj ho
        cases hg
      | 5, _ =>
        obtain rfl := Option.some.inj ho
        cases hg
      | 6, _ =>
        obtain rfl := Option.some.inj ho
        cases hg
      | 7, _ =>
        obtain rfl := Option.some.inj ho
        obtain ⟨rfl, rfl⟩ : 6 = k ∧ true = t := by simpa using hg
        exact hG
      | 8, _ =>
        obtain rfl := Option.some.inj ho
        obtain ⟨rfl, rfl⟩ : 6 = k ∧ true = t := by simpa using hg
        exact hG
      | 9, _ =>
        obtain rfl := Option.some.inj ho
        obtain ⟨rfl, rfl⟩ : 6 = k ∧ true = t := by simpa using hg
        exact hG
      | 10, _ =>
        obtain rfl := Option.some.inj ho
        obtain ⟨rfl, rfl⟩ : 6 = k ∧ true = t := by simpa using hg
        exact hG
      | 11, _ =>
        obtain rfl := Option.some.inj ho
        obtain ⟨rfl, rfl⟩ : 6 = k ∧ true = t := by simpa using hg
        exact hG
      | 12, _ =>
        obtain rfl := Option.some.inj ho
        obtain ⟨rfl, rfl⟩ : 6 = k ∧ true = t := by simpa using hg
        exact hG
      | 13, _ =>
        obtain rfl := Option.some.inj ho
        cases hg
      | 14, _ =>
        obtain rfl := Option.some.inj ho
        cases hg
      | n + 15, h => exact absurd h (by simp)
    case step =>
      intro i op b v ho hb hrest hdep
      have r5 : b.eval (.tmp 5) = x := hrest 5 (Rg.free_spec (by kernel_rfl))
      have r6 : b.eval (.tmp 6) = y := hrest 6 (Rg.free_spec (by kernel_rfl))
      have hi := (Array.getElem?_eq_some_iff.1 ho).1
      match i, hi with
      | 0, _ =>
        obtain rfl := Option.some.inj ho
        have d1 : RowV (Y) (b.eval (.tmp 5)) v := by rw [r5]; exact hY.later hb
        exact Rg.does_move rfl d1
      | 1, _ =>
        obtain rfl := Option.some.inj ho
        have d1 : RowV (Y) (b.eval (.tmp 45)) v := hdep ⟨0, .data⟩ (by simp) rfl _ _ rfl rfl
        exact Rg.does_fn rfl (enters_of Tryd.func7 (by kernel_rfl) rfl) (args := #[b.eval (.tmp 45)]) (by simp) (by have := rtrim_rv d1 (by omega); rwa [TA] at this)
      | 2, _ =>
        obtain rfl := Option.some.inj ho
        have d1 : RowV (Y) (b.eval (.tmp 46)) v := hdep ⟨1, .data⟩ (by simp) rfl _ _ rfl rfl
        exact Rg.does_conv rfl (conv_rv d1) (rfl)
      | 3, _ =>
        obtain rfl := Option.some.inj ho
        have d1 : RowV (Y) (b.eval (.tmp 5)) v := by rw [r5]; exact hY.later hb
        exact Rg.does_move rfl d1
      | 4, _ =>
        obtain rfl := Option.some.inj ho
        have d1 : RowV (Y) (b.eval (.tmp 48)) v := hdep ⟨3, .data⟩ (by simp) rfl _ _ rfl rfl
        exact Rg.does_conv rfl (conv_rv d1) (rfl)
      | 5, _ =>
        obtain rfl := Option.some.inj ho
        have d1 : (b.eval (.tmp 47)) = .string ⟨(Y).toArray⟩ := hdep ⟨2, .data⟩ (by simp) rfl _ _ rfl rfl
        have d2 : (b.eval (.tmp 49)) = .string ⟨(Y).toArray⟩ := hdep ⟨4, .data⟩ (by simp) rfl _ _ rfl rfl
        have f1 : b.tmps[47]?.getD undef = _ := (show _ = b.eval (.tmp 47) by simp [Act.eval]).trans d1
        have f2 : b.tmps[49]?.getD undef = _ := (show _ = b.eval (.tmp 49) by simp [Act.eval]).trans d2
        refine Rg.does_pure (.bool true) ?_ rfl
        have hu := Tryd.underlying9
        simp only [execOp]
        go_simp
      | 6, _ =>
        obtain rfl := Option.some.inj ho
        have d1 : (b.eval (.tmp 50)) = .bool true := hdep ⟨5, .data⟩ (by simp) rfl _ _ rfl rfl
        exact Rg.does_move rfl d1
      | 7, _ =>
        obtain rfl := Option.some.inj ho
        have d1 : RowV (R) (b.eval (.tmp 6)) v := by rw [r6]; exact hR.later hb
        exact Rg.does_move rfl d1
      | 8, _ =>
        obtain rfl := Option.some.inj ho
        have d1 : RowV (R) (b.eval (.tmp 52)) v := hdep ⟨7, .data⟩ (by simp) rfl _ _ rfl rfl
        exact Rg.does_fn rfl (enters_of Tryd.func7 (by kernel_rfl) rfl) (args := #[b.eval (.tmp 52)]) (by simp) (by have := rtrim_rv d1 (by omega); rwa [TB] at this)
      | 9, _ =>
        obtain rfl := Option.some.inj ho
        have d1 : RowV (R) (b.eval (.tmp 53)) v := hdep ⟨8, .data⟩ (by simp) rfl _ _ rfl rfl
        exact Rg.does_conv rfl (conv_rv d1) (rfl)
      | 10, _ =>
        obtain rfl := Option.some.inj ho
        have d1 : RowV (R) (b.eval (.tmp 6)) v := by rw [r6]; exact hR.later hb
        exact Rg.does_move rfl d1
      | 11, _ =>
        obtain rfl := Option.some.inj ho
        have d1 : RowV (R) (b.eval (.tmp 55)) v := hdep ⟨10, .data⟩ (by simp) rfl _ _ rfl rfl
        exact Rg.does_conv rfl (conv_rv d1) (rfl)
      | 12, _ =>
        obtain rfl := Option.some.inj ho
        have d1 : (b.eval (.tmp 54)) = .string ⟨(R).toArray⟩ := hdep ⟨9, .data⟩ (by simp) rfl _ _ rfl rfl
        have d2 : (b.eval (.tmp 56)) = .string ⟨(R).toArray⟩ := hdep ⟨11, .data⟩ (by simp) rfl _ _ rfl rfl
        have f1 : b.tmps[54]?.getD undef = _ := (show _ = b.eval (.tmp 54) by simp [Act.eval]).trans d1
        have f2 : b.tmps[56]?.getD undef = _ := (show _ = b.eval (.tmp 56) by simp [Act.eval]).trans d2
        refine Rg.does_pure (.bool true) ?_ rfl
        have hu := Tryd.underlying9
        simp only [execOp]
        go_simp
      | 13, _ =>
        obtain rfl := Option.some.inj ho
        have d1 : (b.eval (.tmp 51)) = .bool true := hdep ⟨6, .data⟩ (by simp) rfl _ _ rfl rfl
        have d2 : (b.eval (.tmp 57)) = .bool true := hdep ⟨12, .data⟩ (by simp) rfl _ _ rfl rfl
        exact Rg.does_pick rfl d1 d2
      | 14, _ =>
        obtain rfl := Option.some.inj ho
        have d1 : (b.eval (.tmp 58)) = .bool true := hdep ⟨13, .data⟩ (by simp) rfl _ _ rfl rfl
        exact Rg.does_assign rfl d1
      | n + 15, h => exact absurd h (by simp)
    case fin =>
      intro b v hb hs hd hrest hall
      refine ⟨rfl, hb, fun i => b.tmps.getD i undef, ?_⟩
      have e0 : b.tmps.getD 0 undef = .slice o p.length c := hrest 0 (Rg.free_spec (by kernel_rfl))
      have e1 : b.tmps.getD 1 undef = .slice o2 q.length c2 := hrest 1 (Rg.free_spec (by kernel_rfl))
      have e5 : b.tmps.getD 5 undef = x := hrest 5 (Rg.free_spec (by kernel_rfl))
      have e6 : b.tmps.getD 6 undef = y := hrest 6 (Rg.free_spec (by kernel_rfl))
      have e7 : b.tmps.getD 7 undef = .nilIface := hrest 7 (Rg.free_spec (by kernel_rfl))
      have e8 : b.tmps.getD 8 undef = t := hrest 8 (Rg.free_spec (by kernel_rfl))
      have e9 : b.tmps.getD 9 undef = .bool true := hall 14 _ 9 rfl rfl
      have e := lit_of b.tmps 83 hs
      obtain ⟨tm, df⟩ := b
      obtain rfl : df = [] := hd
      dsimp only at e0 e1 e5 e6 e7 e8 e9 e ⊢
      congr 1
      refine e.trans ?_
      rw [← e0, ← e1, ← e5, ← e6, ← e7, ← e8, ← e9]
      rfl
  case rest =>
    rintro e b v ⟨rfl, hb, f, rfl⟩
    rename_i K0 hK0
    have HG4 := Lib.hid (Kit.step HG3.out hb)
    have hp : RowV p (.slice o p.length c) v := ⟨_, _, rfl, HP.out.later HG4.out⟩
    have hq : RowV q (.slice o2 q.length c2) v := ⟨_, _, rfl, HQ.out.later HG4.out⟩
    have hY := hY.later hb
    have hR := hR.later hb
    have ht := HT.out.later hb
    have EQ := div_back HD.out
    have hml : (tr (mulL Y q)).length ≤ Y.length + q.length := by have := tr_le (mulL Y q); simpa [mulL] using this
    show K0 _ _
    refine hK0 _ _ ?_
    clear hK0
    refine wp_seq ?_
    refine Rg.region_grow (by kernel_rfl) (DxG p q Y R) (by kernel_rfl) DxG.later ?gd ?step ?fin
    case gd =>
      intro i op k t ho hg x v hG
      have hi := (Array.getElem?_eq_some_iff.1 ho).1
      match i, hi with
      | 0, _ =>
        obtain rfl := Option.some.inj ho
        cases hg
      | 1, _ =>
        obtain rfl := Option.some.inj ho
        cases hg
      | 2, _ =>
        obtain rfl := Option.some.inj ho
        cases hg
      | 3, _ =>
        obtain rfl := Option.some.inj ho
        obtain ⟨rfl, rfl⟩ : 2 = k ∧ true = t := by simpa using hg
        exact hG
      | 4, _ =>
        obtain rfl := Option.some.inj ho
        cases hg
      | 5, _ =>
        obtain rfl := Option.some.inj ho
        cases hg
      | 6, _ =>
        obtain rfl := Option.some.inj ho
        obtain ⟨rfl, rfl⟩ : 5 = k ∧ true = t := by simpa using hg
        exact hG
      | 7, _ =>
        obtain rfl := Option.some.inj ho
        obtain ⟨rfl, rfl⟩ : 5 = k ∧ true = t := by simpa using hg
        exact hG
      | 8, _ =>
        obtain rfl := Option.some.inj ho
        obtain ⟨rfl, rfl⟩ : 5 = k ∧ true = t := by simpa using hg
        exact hG
      | 9, _ =>
        obtain rfl := Option.some.inj ho
        obtain ⟨rfl, rfl⟩ : 5 = k ∧ true = t := by simpa using hg
        exact hG
      | 10, _ =>
        obtain rfl := Option.some.inj ho
        obtain ⟨rfl, rfl⟩ : 5 = k ∧ true = t := by simpa using hg
        exact hG
      | 11, _ =>
        obtain rfl := Option.some.inj ho
        cases hg
      | 12, _ =>
        obtain rfl := Option.some.inj ho
        cases hg
      | 13, _ =>
        obtain rfl := Option.some.inj ho
        obtain ⟨rfl, rfl⟩ : 12 = k ∧ true = t := by simpa using hg
        exact hG
      | 14, _ =>
        obtain rfl := Option.some.inj ho
        obtain ⟨rfl, rfl⟩ : 12 = k ∧ true = t := by simpa using hg
        exact hG
      | 15, _ =>
        obtain rfl := Option.some.inj ho
        obtain ⟨rfl, rfl⟩ : 12 = k ∧ true = t := by simpa using hg
        exact hG
      | 16, _ =>
        obtain rfl := Option.some.inj ho
        obtain ⟨rfl, rfl⟩ : 12 = k ∧ true = t := by simpa using hg
        exact hG
      | 17, _ =>
        obtain rfl := Option.some.inj ho
        obtain ⟨rfl, rfl⟩ : 12 = k ∧ true = t := by simpa using hg
        exact hG
      | 18, _ =>
        obtain rfl := Option.some.inj ho
        obtain ⟨rfl, rfl⟩ : 12 = k ∧ true = t := by simpa using hg
        exact hG
      | 19, _ =>
        obtain rfl := Option.some.inj ho
        obtain ⟨rfl, rfl⟩ : 12 = k ∧ true = t := by simpa using hg
        exact hG
      | 20, _ =>
        obtain rfl := Option.some.inj ho
        obtain ⟨rfl, rfl⟩ : 12 = k ∧ true = t := by simpa using hg
        exact hG
      | 21, _ =>
        obtain rfl := Option.some.inj ho
        obtain ⟨rfl, rfl⟩ : 12 = k ∧ true = t := by simpa using hg
        exact hG
      | 22, _ =>
        obtain rfl := Option.some.inj ho
        obtain ⟨rfl, rfl⟩ : 12 = k ∧ true = t := by simpa using hg
        exact hG
      | 23, _ =>
        obtain rfl := Option.some.inj ho
        cases hg
      | 24, _ =>
        obtain rfl := Option.some.inj ho
        cases hg
      | n + 25, h => exact absurd h (by simp)
    case step =>
      intro i op b v ho hb hrest hdep
      have r7 : b.eval (.tmp 7) = .nilIface := hrest 7 (Rg.free_spec (by kernel_rfl))
      have r9 : b.eval (.tmp 9) = .bool true := hrest 9 (Rg.free_spec (by kernel_rfl))
      have r6 : b.eval (.tmp 6) = y := hrest 6 (Rg.free_spec (by kernel_rfl))
      have r8 : b.eval (.tmp 8) = t := hrest 8 (Rg.free_spec (by kernel_rfl))
      have r5 : b.eval (.tmp 5) = x := hrest 5 (Rg.free_spec (by kernel_rfl))
      have r1 : b.eval (.tmp 1) = .slice o2 q.length c2 := hrest 1 (Rg.free_spec (by kernel_rfl))
      have r0 : b.eval (.tmp 0) = .slice o p.length c := hrest 0 (Rg.free_spec (by kernel_rfl))
      have hi := (Array.getElem?_eq_some_iff.1 ho).1
      match i, hi with
      | 0, _ =>
        obtain rfl := Option.some.inj ho
        have d1 : b.eval (.tmp 7) = .nilIface := r7
        exact Rg.does_move rfl d1
      | 1, _ =>
        obtain rfl := Option.some.inj ho
        have d1 : (b.eval (.tmp 59)) = .nilIface := hdep ⟨0, .data⟩ (by simp) rfl _ _ rfl rfl
        have f1 : b.tmps[59]?.getD undef = _ := (show _ = b.eval (.tmp 59) by simp [Act.eval]).trans d1
        refine Rg.does_pure (.bool true) ?_ rfl
        simp only [execOp]
        go_simp
      | 2, _ =>
        obtain rfl := Option.some.inj ho
        have d1 : (b.eval (.tmp 60)) = .bool true := hdep ⟨1, .data⟩ (by simp) rfl _ _ rfl rfl
        exact Rg.does_move rfl d1
      | 3, _ =>
        obtain rfl := Option.some.inj ho
        have d1 : b.eval (.tmp 9) = .bool true := r9
        exact Rg.does_move rfl d1
      | 4, _ =>
        obtain rfl := Option.some.inj ho
        have d1 : (b.eval (.tmp 61)) = .bool true := hdep ⟨2, .data⟩ (by simp) rfl _ _ rfl rfl
        have d2 : (b.eval (.tmp 62)) = .bool true := hdep ⟨3, .data⟩ (by simp) rfl _ _ rfl rfl
        exact Rg.does_pick rfl d1 d2
      | 5, _ =>
        obtain rfl := Option.some.inj ho
        have d1 : (b.eval (.tmp 63)) = .bool true := hdep ⟨4, .data⟩ (by simp) rfl _ _ rfl rfl
        exact Rg.does_move rfl d1
      | 6, _ =>
        obtain rfl := Option.some.inj ho
        have d1 : RowV (R) (b.eval (.tmp 6)) v := by rw [r6]; exact hR.later hb
        exact Rg.does_move rfl d1
      | 7, _ =>
        obtain rfl := Option.some.inj ho
        have d1 : RowV (R) (b.eval (.tmp 65)) v := hdep ⟨6, .data⟩ (by simp) rfl _ _ rfl rfl
        obtain ⟨o3, c3, e3, hr3⟩ := d1
        have f1 : b.tmps[65]?.getD undef = _ := (show _ = b.eval (.tmp 65) by simp [Act.eval]).trans e3
        refine Rg.does_pure (.int .i64 ((R).length : Int)) ?_ rfl
        simp only [execOp]
        go_simp
      | 8, _ =>
        obtain rfl := Option.some.inj ho
        have d1 : RowV (tr q) (b.eval (.tmp 8)) v := by rw [r8]; exact ht.later hb
        exact Rg.does_move rfl d1
      | 9, _ =>
        obtain rfl := Option.some.inj ho
        have d1 : RowV (tr q) (b.eval (.tmp 67)) v := hdep ⟨8, .data⟩ (by simp) rfl _ _ rfl rfl
        obtain ⟨o3, c3, e3, hr3⟩ := d1
        have f1 : b.tmps[67]?.getD undef = _ := (show _ = b.eval (.tmp 67) by simp [Act.eval]).trans e3
        refine Rg.does_pure (.int .i64 ((tr q).length : Int)) ?_ rfl
        simp only [execOp]
        go_simp
      | 10, _ =>
        obtain rfl := Option.some.inj ho
        have d1 : (b.eval (.tmp 66)) = .int .i64 ((R).length : Int) := hdep ⟨7, .data⟩ (by simp) rfl _ _ rfl rfl
        have d2 : (b.eval (.tmp 68)) = .int .i64 ((tr q).length : Int) := hdep ⟨9, .data⟩ (by simp) rfl _ _ rfl rfl
        have f1 : b.tmps[66]?.getD undef = _ := (show _ = b.eval (.tmp 66) by simp [Act.eval]).trans d1
        have f2 : b.tmps[68]?.getD undef = _ := (show _ = b.eval (.tmp 68) by simp [Act.eval]).trans d2
        refine Rg.does_pure (.bool true) ?_ rfl
        have hlt : (R.length : Int) < ((tr q).length : Int) := by omega
        simp only [execOp]
        go_simp
      | 11, _ =>
        obtain rfl := Option.some.inj ho
        have d1 : (b.eval (.tmp 64)) = .bool true := hdep ⟨5, .data⟩ (by simp) rfl _ _ rfl rfl
        have d2 : (b.eval (.tmp 69)) = .bool true := hdep ⟨10, .data⟩ (by simp) rfl _ _ rfl rfl
        exact Rg.does_pick rfl d1 d2
      | 12, _ =>
        obtain rfl := Option.some.inj ho
        have d1 : (b.eval (.tmp 70)) = .bool true := hdep ⟨11, .data⟩ (by simp) rfl _ _ rfl rfl
        exact Rg.does_move rfl d1
      | 13, _ =>
        obtain rfl := Option.some.inj ho
        have d1 : RowV (Y) (b.eval (.tmp 5)) v := by rw [r5]; exact hY.later hb
        exact Rg.does_move rfl d1
      | 14, _ =>
        obtain rfl := Option.some.inj ho
        have d1 : RowV (q) (b.eval (.tmp 1)) v := by rw [r1]; exact hq.later hb
        exact Rg.does_move rfl d1
      | 15, _ =>
        obtain rfl := Option.some.inj ho
        have d1 : RowV (Y) (b.eval (.tmp 72)) v := hdep ⟨13, .data⟩ (by simp) rfl _ _ rfl rfl
        have d2 : RowV (q) (b.eval (.tmp 73)) v := hdep ⟨14, .data⟩ (by simp) rfl _ _ rfl rfl
        exact Rg.does_fn rfl (enters_of Tryd.func10 (by kernel_rfl) rfl) (args := #[b.eval (.tmp 72), b.eval (.tmp 73)]) (by simp) (rmulp_rv d1 d2 (by omega))
      | 16, _ =>
        obtain rfl := Option.some.inj ho
        have d1 : RowV (R) (b.eval (.tmp 6)) v := by rw [r6]; exact hR.later hb
        exact Rg.does_move rfl d1
      | 17, _ =>
        obtain rfl := Option.some.inj ho
        have d1 : RowV (tr (mulL Y q)) (b.eval (.tmp 74)) v := hdep ⟨15, .data⟩ (by simp) rfl _ _ rfl rfl
        have d2 : RowV (R) (b.eval (.tmp 75)) v := hdep ⟨16, .data⟩ (by simp) rfl _ _ rfl rfl
        exact Rg.does_fn rfl (enters_of Tryd.func9 (by kernel_rfl) rfl) (args := #[b.eval (.tmp 74), b.eval (.tmp 75)]) (by simp) (by have := raddp_rv d1 d2 (by omega) (by omega); rwa [EQ] at this)
      | 18, _ =>
        obtain rfl := Option.some.inj ho
        have d1 : RowV (tr p) (b.eval (.tmp 76)) v := hdep ⟨17, .data⟩ (by simp) rfl _ _ rfl rfl
        exact Rg.does_conv rfl (conv_rv d1) (rfl)
      | 19, _ =>
        obtain rfl := Option.some.inj ho
        have d1 : RowV (p) (b.eval (.tmp 0)) v := by rw [r0]; exact hp.later hb
        exact Rg.does_move rfl d1
      | 20, _ =>
        obtain rfl := Option.some.inj ho
        have d1 : RowV (p) (b.eval (.tmp 78)) v := hdep ⟨19, .data⟩ (by simp) rfl _ _ rfl rfl
        exact Rg.does_fn rfl (enters_of Tryd.func7 (by kernel_rfl) rfl) (args := #[b.eval (.tmp 78)]) (by simp) (rtrim_rv d1 (by omega))
      | 21, _ =>
        obtain rfl := Option.some.inj ho
        have d1 : RowV (tr p) (b.eval (.tmp 79)) v := hdep ⟨20, .data⟩ (by simp) rfl _ _ rfl rfl
        exact Rg.does_conv rfl (conv_rv d1) (rfl)
      | 22, _ =>
        obtain rfl := Option.some.inj ho
        have d1 : (b.eval (.tmp 77)) = .string ⟨(tr p).toArray⟩ := hdep ⟨18, .data⟩ (by simp) rfl _ _ rfl rfl
        have d2 : (b.eval (.tmp 80)) = .string ⟨(tr p).toArray⟩ := hdep ⟨21, .data⟩ (by simp) rfl _ _ rfl rfl
        have f1 : b.tmps[77]?.getD undef = _ := (show _ = b.eval (.tmp 77) by simp [Act.eval]).trans d1
        have f2 : b.tmps[80]?.getD undef = _ := (show _ = b.eval (.tmp 80) by simp [Act.eval]).trans d2
        refine Rg.does_pure (.bool true) ?_ rfl
        have hu := Tryd.underlying9
        simp only [execOp]
        go_simp
      | 23, _ =>
        obtain rfl := Option.some.inj ho
        have d1 : (b.eval (.tmp 71)) = .bool true := hdep ⟨12, .data⟩ (by simp) rfl _ _ rfl rfl
        have d2 : (b.eval (.tmp 81)) = .bool true := hdep ⟨22, .data⟩ (by simp) rfl _ _ rfl rfl
        exact Rg.does_pick rfl d1 d2
      | 24, _ =>
        obtain rfl := Option.some.inj ho
        have d1 : (b.eval (.tmp 82)) = .bool true := hdep ⟨23, .data⟩ (by simp) rfl _ _ rfl rfl
        exact Rg.does_assign rfl d1
      | n + 25, h => exact absurd h (by simp)
    case fin =>
      intro b v2 hb2 hs hd hrest hall
      have h4 : b.tmps.getD 4 undef = .bool true := hall 24 _ 4 rfl rfl
      have HB := Lib.hid (Kit.step HG4.out hb2)
      go_wp2
      refine bodyPost_ret (results_tmp rfl _ _ _) hd ?_
      exact ⟨by rw [h4], HB.out⟩
set_option maxRecDepth 100000 in
theorem diw_zero (p q : List UInt8) (o o2 : Option Addr) (c c2 : Nat) (w : World) (E : Nat → Addr) (hE : Er.Errs w E) (hP : RowIs w o (bytesV p) c) (hQ : RowIs w o2 (bytesV q) c2) (hl1 : p.length ≤ 80) (hl2 : q.length ≤ 80) (h0 : (tr q).length = 0) :
    Calls Tryd.prog 3 #[.slice o p.length c, .slice o2 q.length c2] w fun e w' => e = .returned (.bool true) ∧ Below w.heap.size w w' := by
  have HP := Lib.hid hP
  have HQ := Lib.hid hQ
  have HE := Lib.hid hE
  clear hP hQ hE
  go_enter Tryd.func3, Tryd.ntmps3
  go_wp2_with fail
  refine (alive2_any _).mono ?_; rintro e w1 ⟨rfl, hg⟩
  have HG := Lib.hid hg
  clear hg
  go_wp2_with fail
  refine (div_zero p q o o2 c c2 _ E (HE.out.later HG.out) (HQ.out.later HG.out) h0).mono ?_; rintro e w2 ⟨rfl, hg⟩
  have HG2 := Lib.hid (Kit.step HG.out hg)
  clear hg
  go_wp2_with fail
  have hrt := rtrim_rv (⟨_, _, rfl, HQ.out.later HG2.out⟩ : RowV q (.slice o2 q.length c2) w2) (by omega)
  refine hrt.mono ?_; rintro e w3 ⟨t, rfl, ht, hg⟩
  have HG3 := Lib.hid (Kit.step HG2.out hg)
  obtain ⟨o8, c8, rfl, _⟩ := ht
  rw [h0]
  clear hg hrt h0
  have HN := Lib.hid (Er.num_of E 19 (by omega) w3 (HE.out.later HG3.out))
  go_wp2_with fail
  refine HN.out.mono ?_; rintro e w4 ⟨rfl, hg⟩
  have HG4 := Lib.hid (Kit.step HG3.out hg)
  clear hg HN
  go_wp2_with fail
  go_ret
  exact ⟨rfl, HG4.out⟩
theorem diw_long (p q : List UInt8) (o o2 : Option Addr) (c c2 : Nat) (w : World) (hl : 80 < p.length ∨ 80 < q.length) (h1 : p.length ≤ 9223372036854775807) (h2 : q.length ≤ 9223372036854775807) :
    Calls Tryd.prog 3 #[.slice o p.length c, .slice o2 q.length c2] w fun e w' => e = .returned (.bool true) ∧ Below w.heap.size w w' := by
  by_cases h3 : 80 < p.length
  · clear hl
    go_enter Tryd.func3, Tryd.ntmps3
    go_wp2_with fail
    refine (alive2_any _).mono ?_; rintro e w1 ⟨rfl, hg⟩
    have HG := Lib.hid hg
    clear hg
    go_wp2_with fail
    go_ret
    exact ⟨rfl, HG.out⟩
  · have h4 : 80 < q.length := by omega
    have hd1 : decide (80 < p.length) = false := by simpa using h3
    clear hl
    go_enter Tryd.func3, Tryd.ntmps3
    go_wp2_with fail
    refine (alive2_any _).mono ?_; rintro e w1 ⟨rfl, hg⟩
    have HG := Lib.hid hg
    clear hg
    go_wp2_with fail
    go_ret
    exact ⟨rfl, HG.out⟩
theorem diw_walk (p q : List UInt8) (o o2 : Option Addr) (c c2 : Nat) (w : World) (E : Nat → Addr) (hE : Er.Errs w E) (hP : RowIs w o (bytesV p) c) (hQ : RowIs w o2 (bytesV q) c2) :
    Calls Tryd.prog 3 #[.slice o p.length c, .slice o2 q.length c2] w fun e w' => e = .returned (.bool true) ∧ Below w.heap.size w w' := by
  by_cases hl : 80 < p.length ∨ 80 < q.length
  · have h1 := hP.le
    have h2 := hP.cap
    have h3 := hQ.le
    have h4 := hQ.cap
    simp only [bytesV_length] at h1 h3
    unfold maxLen at h2 h4
    exact diw_long p q o o2 c c2 w hl (by omega) (by omega)
  · by_cases h0 : (tr q).length = 0
    · exact diw_zero p q o o2 c c2 w E hE hP hQ (by omega) (by omega) h0
    · exact diw_short p q o o2 c c2 w hP hQ (by omega) (by omega) h0
end Go.Proofs.YthbmbobjalgafaaDoor
