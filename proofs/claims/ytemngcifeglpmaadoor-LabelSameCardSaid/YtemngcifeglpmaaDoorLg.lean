/- label.Same. -/
import Derived.Test.YtemngcifeglpmaaDoorLf
namespace Go.Proofs.YtemngcifeglpmaaDoor.Da
theorem take_eq_step (a b : List (List UInt8)) (k : Nat) (ha : k < a.length) (hb : k < b.length) : (a.take (k + 1) == b.take (k + 1)) = ((bi a k == bi b k) && (a.take k == b.take k)) := by
  have e : ∀ (l : List (List UInt8)), k < l.length → l.take (k + 1) = l.take k ++ [bi l k] := fun l h => by
    rw [List.take_add_one, List.getElem?_eq_getElem h]
    simp [bi, h]
  rw [e a ha, e b hb]
  by_cases h1 : bi a k = bi b k
  · by_cases h2 : a.take k = b.take k
    · rw [h1, h2]; simp
    · have h3 : ¬ a.take k ++ [bi a k] = b.take k ++ [bi b k] := fun h => h2 (List.append_inj_left' h rfl)
      rw [beq_eq_false_iff_ne.2 h3, beq_eq_false_iff_ne.2 h2, Bool.and_false]
  · have h3 : ¬ a.take k ++ [bi a k] = b.take k ++ [bi b k] := fun h => h1 (by
      have := List.append_inj_right' h rfl
      simpa using this)
    rw [beq_eq_false_iff_ne.2 h3, beq_eq_false_iff_ne.2 h1, Bool.false_and]
end Go.Proofs.YtemngcifeglpmaaDoor.Da
namespace Go.Proofs.YtemngcifeglpmaaDoor
open Go.RowKit
set_option linter.unusedVariables false
set_option linter.unusedSimpArgs false
theorem lk_under : ∃ fs, Tryd.prog.underlying 36 = some (.struct fs) := ⟨_, Tryd.underlying36⟩
def Ls1 (a b : List (List UInt8)) (ys : List Value) (g : Nat) (w : World) (s i : Value) (wr : World) : Prop :=
  ∃ k : Nat, k ≤ 5 ∧ i = .int .i64 k ∧ s = .bool (a.take k == b.take k) ∧ Arr wr g 39 ys ∧ Below w.heap.size w wr
set_option maxRecDepth 100000 in
set_option maxHeartbeats 1000000 in
theorem lsame_of (Z : Array Value) (hZ : nil5.toArray = Z) (hzs : ∀ w, Sem.run Tryd.prog (zeroValue 39) w = .ok (.agg Z) w)
    (xs ys : List Value) (a b : List (List UInt8)) (w : World) (hA : Els w a xs) (hB : Els w b ys) (hal : a.length = 5) (hbl : b.length = 5) (has : ∀ i, i < 5 → (bi a i).length ≤ 60000) (hbs : ∀ i, i < 5 → (bi b i).length ≤ 60000) :
    Calls Tryd.prog 19 #[.agg xs.toArray, .agg ys.toArray] w fun e w' => e = .returned (.bool (a == b)) ∧ Below w.heap.size w w' := by
  have hx5 := hA.five hal
  have hy5 := hB.five hbl
  have hxl : xs.length = 5 := hA.len.trans hal
  have hyl : ys.length = 5 := hB.len.trans hbl
  obtain ⟨X, hX⟩ : ∃ X : Array Value, xs.toArray = X := ⟨_, rfl⟩
  obtain ⟨Y, hY⟩ : ∃ Y : Array Value, ys.toArray = Y := ⟨_, rfl⟩
  obtain ⟨g, hg⟩ : ∃ g, w.heap.size = g := ⟨_, rfl⟩
  obtain ⟨W1, hW1⟩ : ∃ W1, w.alloc (Obj.cells X 36) = W1 := ⟨_, rfl⟩
  obtain ⟨W2, hW2⟩ : ∃ W2, W1.alloc (Obj.cells Y 36) = W2 := ⟨_, rfl⟩
  have hs1 : W1.heap.size = g + 1 := by rw [← hW1, World.size_alloc, hg]
  have hA1 : Arr W1 g 36 xs := by rw [← hW1, ← hg, ← hX]; exact Arr.made _ _ _
  have hA2 : Arr W2 g 36 xs := by rw [← hW2]; exact hA1.alloc _
  have hY2 : Arr W2 (g + 1) 36 ys := by rw [← hW2, ← hY, ← hs1]; exact Arr.made _ _ _
  have hb2 : Below w.heap.size w W2 := by
    rw [← hW2, ← hW1]; exact ((Below.refl _ _).alloc (Nat.le_refl _) _).alloc (by rw [World.size_alloc]; omega) _
  have HX2 : Hid (W2.heap[g]? = some (.cells X 36 (0, 0))) := Lib.hid (by rw [← hX]; exact hA2)
  have HY2 : Hid (W2.heap[g + 1]? = some (.cells Y 36 (0, 0))) := Lib.hid (by rw [← hY]; exact hY2)
  have HXS : Hid ((Tryd.prog.info? 36).map (·.size) = some X.size) := Lib.hid (by rw [lk_info, ← hX]; simp [hxl])
  have HYS : Hid ((Tryd.prog.info? 36).map (·.size) = some Y.size) := Lib.hid (by rw [lk_info, ← hY]; simp [hyl])
  have HYK : Hid ((Tryd.prog.info? 39).map (·.size) = some Y.size) := Lib.hid (by rw [k5_info, ← hY]; simp [hyl])
  have HYZ : Hid (Z.size = Y.size) := Lib.hid (by rw [← hZ, ← hY]; simp [hyl]; rfl)
  have HYO : Hid (Y.all (·.oneCell') = true) := Lib.hid (by rw [← hY]; exact all_oneCell_toArray hB.ones)
  have LX : Hid (∀ v, Calls Tryd.prog 24 #[.agg X] v fun e w' => e = .returned (.agg X) ∧ Below v.heap.size v w') := Lib.hid fun v => by rw [← hX]; exact llist_any xs hx5 v
  have LY : Hid (∀ v, Calls Tryd.prog 24 #[.agg Y] v fun e w' => e = .returned (.agg Y) ∧ Below v.heap.size v w') := Lib.hid fun v => by rw [← hY]; exact llist_any ys hy5 v
  have HA := Lib.hid hA
  have HB := Lib.hid hB
  have HAL := Lib.hid hal
  have HBL := Lib.hid hbl
  have HAS := Lib.hid has
  have HBS := Lib.hid hbs
  have HB2 := Lib.hid hb2
  have HG := Lib.hid hg
  have HX := Lib.hid hX
  have HY := Lib.hid hY
  have HW1 := Lib.hid hW1
  have HW2 := Lib.hid hW2
  have HS1 := Lib.hid hs1
  have HXL := Lib.hid hxl
  have HYL := Lib.hid hyl
  rw [hX, hY]
  clear hA hB hal hbl has hbs hX hY hg hW1 hW2 hs1 hA1 hA2 hY2 hb2 hZ hx5 hy5 hxl hyl
  go_enter Tryd.func19, Tryd.ntmps19
  go_upto_region 1 with fail
  rw [HW1.out, HW2.out, HG.out]
  apply wp_region_lit
  refine wpList_load_row rfl 36 (.tmp 3) rfl (g + 1) rfl 36 Y (0, 0) _ HY2.out Tryd.underlying36 rfl HYS.out ?_
  (refine wpList_plain rfl (fun K hK => ?_); go_simp)
  refine (LY.out W2).mono ?_
  rintro e W3 ⟨rfl, hb3⟩
  refine hK _ _ ?_
  clear hK K
  obtain ⟨W4, hW4⟩ : ∃ W4, W3.alloc (.cells Z 39) = W4 := ⟨_, rfl⟩
  obtain ⟨q, hq⟩ : ∃ q, W3.heap.size = q := ⟨_, rfl⟩
  obtain ⟨W5, hW5⟩ : ∃ W5, W4.setRow q Y = W5 := ⟨_, rfl⟩
  have hA4 : Arr W4 q 39 Z.toList := by rw [← hW4, ← hq]; exact Arr.made _ _ _
  have hA5 : Arr W5 q 39 ys := by rw [← hW5]; unfold Arr; rw [HY.out]; exact setRow_heap _ _ _ _ _ _ hA4
  have hb5 : Below W3.heap.size W3 W5 := by rw [← hW5, ← hW4]; exact ((Below.refl _ _).alloc (Nat.le_refl _) _).trans (below_row (by omega))
  have hX5 : W5.heap[g]? = some (.cells X 36 (0, 0)) := by
    have h0 : Arr W2 g 36 X.toList := HX2.out
    have h1 := (h0.later hb3 h0.lt)
    exact h1.later hb5 h1.lt
  have HA4 : Hid (W4.heap[q]? = some (.cells Z 39 (0, 0))) := Lib.hid hA4
  have HA5 := Lib.hid hA5
  have HB5 := Lib.hid (Kit.step (Kit.step HB2.out hb3) hb5)
  have HX5 := Lib.hid hX5
  have HW4 := Lib.hid hW4
  have HW5 := Lib.hid hW5
  have HQ := Lib.hid hq
  have HGQ : Hid (w.heap.size ≤ q) := Lib.hid (by have := (Kit.step HB2.out hb3).size; omega)
  clear hW4 hW5 hq hA4 hA5 hb5 hb3 hX5
  (refine wpList_plain rfl (fun K hK => ?_); go_simp; refine hK _ _ ?_; clear hK K)
  rw [HW4.out, HQ.out]
  (refine wpList_plain rfl (fun K hK => ?_); go_simp; refine hK _ _ ?_; clear hK K)
  refine wpList_store_rowTo rfl 39 (.tmp 6) (.tmp 10) rfl rfl q Y rfl rfl 39 Z HA4.out HYK.out HYZ.out HYO.out ?_
  rw [HW5.out]
  go_upto_region 2 with fail
  apply wp_region_lit
  refine wpList_load_row rfl 36 (.tmp 2) rfl g rfl 36 X (0, 0) _ HX5.out Tryd.underlying36 rfl HXS.out ?_
  (refine wpList_plain rfl (fun K hK => ?_); go_simp)
  refine (LX.out W5).mono ?_
  rintro e W6 ⟨rfl, hb6⟩
  refine hK _ _ ?_
  clear hK K
  have HX0 : Hid (Ls1 a b ys q w (.bool true) (.int .i64 0) W6) := Lib.hid ⟨0, by omega, rfl, rfl, HA5.out.later hb6 HA5.out.lt, Kit.step HB5.out hb6⟩
  clear hb6 HB5 HX5 HA5 HW5 HW4 HA4 HX2 HY2 HB2 HW1 HW2
  go_wp2_with fail
  go_loopw [5, 13] (fun s i wr => Ls1 a b ys q w s i wr) (fun _ i _ => 5 - (intOf i).toNat)
  case atStart => exact HX0.out
  case round =>
    rename World => V
    obtain ⟨k, hk, rfl, rfl, hR, hb⟩ := hrel
    by_cases hlt : k < 5
    · have hd1 : decide ((k : Int) < 5) = true := by simp; omega
      obtain ⟨x, hx1, hx2⟩ := (HA.out.later hb).get k (by rw [HAL.out]; exact hlt)
      obtain ⟨y, hy1, hy2⟩ := (HB.out.later hb).get k (by rw [HBL.out]; exact hlt)
      have hIX : ∀ W, (Instr.index 39 (.agg X) (.int .i64 (k : Int))).run Tryd.prog W = .ok x W := run_index_one _ _ 5 X k _ k5_under (by kernel_rfl) (fun W => by kernel_rfl) hlt (by rw [← HX.out, List.getElem?_toArray]; exact hx1)
      have hcy : V.cell? ⟨q, k, none⟩ = some y := by rw [hR.cell]; exact hy1
      obtain ⟨ox, cx, rfl, hrx⟩ := hx2
      obtain ⟨oy, cy, rfl, hry⟩ := hy2
      obtain ⟨A0, hA0⟩ : ∃ A0, bi a k = A0 := ⟨_, rfl⟩
      obtain ⟨B0, hB0⟩ : ∃ B0, bi b k = B0 := ⟨_, rfl⟩
      have hAs := HAS.out k hlt
      have hBs := HBS.out k hlt
      have hstep := Da.take_eq_step a b k (by rw [HAL.out]; exact hlt) (by rw [HBL.out]; exact hlt)
      rw [hA0] at hrx hIX hAs hstep
      rw [hB0] at hry hcy hBs hstep
      obtain ⟨tk, htk⟩ : ∃ tk, (a.take k == b.take k) = tk := ⟨_, rfl⟩
      rw [htk] at hstep ⊢
      have SM := Lib.hid (same_any A0 B0 ox cx oy cy V hrx hry hAs hBs)
      obtain ⟨e0, he0⟩ : ∃ e0, (A0 == B0) = e0 := ⟨_, rfl⟩
      rw [he0] at SM hstep
      have HST := Lib.hid hstep
      have HR := Lib.hid hR
      have HBV := Lib.hid hb
      clear hx1 hy1 hrx hry hA0 hB0 hAs hBs hstep htk he0 hR hb
      go_wp2_with fail
      refine SM.out.mono ?_
      rintro e V2 ⟨rfl, hb2⟩
      have HX9 : Hid (Ls1 a b ys q w (.bool (e0 && tk)) (.int .i64 ((k : Int) + 1)) V2) := Lib.hid ⟨k + 1, by omega, by go_num, by rw [HST.out], HR.out.later hb2 HR.out.lt, Kit.step HBV.out hb2⟩
      clear hb2 SM HST
      cases e0 with
      | false =>
        go_wp2_with fail
        exact ⟨HX9.out, by simp [intOf]; omega⟩
      | true =>
        go_wp2_with fail
        exact ⟨HX9.out, by simp [intOf]; omega⟩
    · obtain rfl : k = 5 := by omega
      have hd1 : decide (((5 : Nat) : Int) < 5) = false := by decide
      have h1 : (a.take 5 == b.take 5) = (a == b) := by
        rw [List.take_of_length_le (by rw [HAL.out]; omega), List.take_of_length_le (by rw [HBL.out]; omega)]
      rw [h1]
      have HBV := Lib.hid hb
      clear hb hR h1
      go_wp2_with fail
      go_ret
      exact ⟨rfl, HBV.out⟩
theorem lsame_any (xs ys : List Value) (a b : List (List UInt8)) (w : World) (hA : Els w a xs) (hB : Els w b ys) (hal : a.length = 5) (hbl : b.length = 5) (has : ∀ i, i < 5 → (bi a i).length ≤ 60000) (hbs : ∀ i, i < 5 → (bi b i).length ≤ 60000) :
    Calls Tryd.prog 19 #[.agg xs.toArray, .agg ys.toArray] w fun e w' => e = .returned (.bool (a == b)) ∧ Below w.heap.size w w' := lsame_of _ rfl k5_zero xs ys a b w hA hB hal hbl has hbs
end Go.Proofs.YtemngcifeglpmaaDoor
