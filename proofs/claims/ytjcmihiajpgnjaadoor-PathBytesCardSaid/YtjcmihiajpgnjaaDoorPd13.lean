/- What a path makes of a leaf, byte string by byte string: made, an iterator that loops over another. -/
import Derived.Test.YtjcmihiajpgnjaaDoorPm13
import Derived.Test.YtjcmihiajpgnjaaDoorStq
namespace Go.Proofs.YtjcmihiajpgnjaaDoor
open Go.RowKit
set_option linter.unusedVariables false
set_option linter.unusedSimpArgs false
attribute [local go_sem] Oper.semAt_some
theorem Buf.block {W W' : World} {g cap : Nat} {ys : List UInt8} (h : Buf W g cap ys) (hk : W'.heap[g]? = W.heap[g]?) : Buf W' g cap ys := by
  obtain ⟨h1, h2⟩ := h
  refine ⟨h1, ?_⟩
  rcases h2 with h2 | ⟨g', cap', cur, e, hg, hh, r1, r2, r3, r4⟩
  · exact .inl h2
  · refine .inr ⟨g', cap', cur, e, hg, ?_, r1, r2, r3, r4⟩
    cases e
    rw [hk]
    exact hh
theorem box_block {W W' : World} {g : Nat} {t : TypeId} {v : Value} (h : Boxed W g t v) (hk : W'.heap[g]? = W.heap[g]?) : Boxed W' g t v := by
  unfold Boxed at *
  rw [hk]
  exact h
theorem box_ne {W : World} {p q : Nat} {t u : TypeId} {v x : Value} (h : Boxed W p t v) (k : Boxed W q u x) (hne : t ≠ u) : p ≠ q := fun e => by
  subst e
  unfold Boxed at *
  rw [h] at k
  cases k
  exact hne rfl
theorem Buf.ne {W : World} {g cap q : Nat} {ys : List UInt8} {u : TypeId} {x : Value} (h : Buf W g cap ys) (k : Boxed W q u x) (hne : u ≠ 5) : g ≠ q := fun e => by
  subst e
  obtain ⟨cur, hc⟩ := h.cells
  unfold Boxed at k
  rw [hc] at k
  cases k
  exact hne rfl
/-- a node's bytes -/
theorem tinn_any (t : Nat × Nat × Bool) (own other : List UInt8) (ho : own.length = 32) (hd : other.length = 32) (w : World) :
    Calls Tryd.prog 52 #[tnV t, .agg (bytesV own).toArray, .agg (bytesV other).toArray] w fun e w' => ∃ g cap, e = .returned (.slice (some ⟨g, 0, none⟩) 65 cap) ∧ w.heap.size ≤ g ∧ Buf w' g cap (Da.inn t.2.2 own other) ∧ Below w.heap.size w w' := by
  obtain ⟨tf, tt, tl⟩ := t
  obtain ⟨D, hD⟩ : ∃ D, tnD (tf, tt, tl) = D := ⟨_, rfl⟩
  obtain ⟨A, hA⟩ : ∃ A, (bytesV own).toArray = A := ⟨_, rfl⟩
  obtain ⟨B, hB⟩ : ∃ B, (bytesV other).toArray = B := ⟨_, rfl⟩
  obtain ⟨p, hp⟩ : ∃ p, w.heap.size = p := ⟨_, rfl⟩
  obtain ⟨W1, hW1⟩ : ∃ W1, w.alloc (.cells D 65) = W1 := ⟨_, rfl⟩
  have hs1 : W1.heap.size = p + 1 := by rw [← hW1, World.size_alloc, hp]
  obtain ⟨W2, hW2⟩ : ∃ W2, W1.alloc (.cells A 38) = W2 := ⟨_, rfl⟩
  have hs2 : W2.heap.size = p + 1 + 1 := by rw [← hW2, World.size_alloc, hs1]
  obtain ⟨W3, hW3⟩ : ∃ W3, W2.alloc (.cells B 38) = W3 := ⟨_, rfl⟩
  have hb1 : Below w.heap.size w W1 := by rw [← hW1]; exact new12 _ _
  have hb2 : Below W1.heap.size W1 W2 := by rw [← hW2]; exact new12 _ _
  have hb3 : Below W2.heap.size W2 W3 := by rw [← hW3]; exact new12 _ _
  have h1 : W3.heap[p]? = some (.cells D 65 (0, 0)) := by
    rw [hb3.block p (by omega), hb2.block p (by omega), ← hW1, ← hp]
    exact World.alloc_heap_new w _
  have h2 : W3.heap[p + 1]? = some (.cells A 38 (0, 0)) := by
    rw [hb3.block (p + 1) (by omega), ← hW2, ← hs1]
    exact World.alloc_heap_new W1 _
  have h3 : W3.heap[p + 1 + 1]? = some (.cells B 38 (0, 0)) := by
    rw [← hW3, ← hs2]
    exact World.alloc_heap_new W2 _
  have hAs : A.size = 32 := by rw [← hA]; simp [ho]
  have hBs : B.size = 32 := by rw [← hB]; simp [hd]
  have HAS : Hid ((Tryd.prog.info? 38).map (·.size) = some A.size) := Lib.hid (by rw [dg_info, hAs])
  have HBS : Hid ((Tryd.prog.info? 38).map (·.size) = some B.size) := Lib.hid (by rw [dg_info, hBs])
  have hc : W3.cell? ⟨p, 2, none⟩ = some (.bool tl) := by unfold World.cell?; rw [h1, ← hD]; rfl
  have HB3 := Lib.hid (Kit.step (Kit.step hb1 hb2) hb3)
  have TL := tinner_any other own hd ho W3
  have TR := tinner_any own other ho hd W3
  rw [hA, hB] at TL TR ⊢
  have HTL := Lib.hid TL
  have HTR := Lib.hid TR
  have H2 := Lib.hid h2
  have H3 := Lib.hid h3
  have HW1 := Lib.hid hW1
  have HW2 := Lib.hid hW2
  have HW3 := Lib.hid hW3
  have HP := Lib.hid hp
  have HS1 := Lib.hid hs1
  have HS2 := Lib.hid hs2
  unfold tnV
  rw [hD]
  clear TL TR h1 h2 h3 hb1 hb2 hb3 hW1 hW2 hW3 hp hs1 hs2 hA hB hD hAs hBs
  go_enter Tryd.func52, Tryd.ntmps52
  go_upto_region 1 with fail
  rw [HW1.out, HW2.out, HW3.out, HP.out]
  clear HW1 HW2 HW3
  cases tl with
  | true =>
    go_upto_region 2 with fail
    apply wp_region_lit
    refine wpList_load_row rfl 38 (.tmp 5) rfl (p + 1 + 1) rfl 38 B (0, 0) _ H3.out dg_under rfl HBS.out ?_
    refine wpList_load_row rfl 38 (.tmp 4) rfl (p + 1) rfl 38 A (0, 0) _ H2.out dg_under rfl HAS.out ?_
    (refine wpList_plain rfl (fun K hK => ?_); go_simp)
    refine HTL.out.mono ?_
    rintro e W4 ⟨g, cap, rfl, hg, hbuf, hb4⟩
    refine hK _ _ ?_
    clear hK K
    have HBF := Lib.hid hbuf
    have HG := Lib.hid (Nat.le_trans HB3.out.size hg)
    have HB4 := Lib.hid (Kit.step HB3.out hb4)
    clear hg hbuf hb4
    go_wp2_with fail
    go_ret
    exact ⟨g, cap, rfl, HG.out, HBF.out, HB4.out⟩
  | false =>
    go_upto_region 3 with fail
    apply wp_region_lit
    refine wpList_load_row rfl 38 (.tmp 4) rfl (p + 1) rfl 38 A (0, 0) _ H2.out dg_under rfl HAS.out ?_
    refine wpList_load_row rfl 38 (.tmp 5) rfl (p + 1 + 1) rfl 38 B (0, 0) _ H3.out dg_under rfl HBS.out ?_
    (refine wpList_plain rfl (fun K hK => ?_); go_simp)
    refine HTR.out.mono ?_
    rintro e W4 ⟨g, cap, rfl, hg, hbuf, hb4⟩
    refine hK _ _ ?_
    clear hK K
    have HBF := Lib.hid hbuf
    have HG := Lib.hid (Nat.le_trans HB3.out.size hg)
    have HB4 := Lib.hid (Kit.step HB3.out hb4)
    clear hg hbuf hb4
    go_wp2_with fail
    go_ret
    exact ⟨g, cap, rfl, HG.out, HBF.out, HB4.out⟩
/-- the closure that made makes -/
theorem mmade_any (n i : Int) (ol op : Option Addr) (L cl m cp : Nat) (w : World) :
    Calls Tryd.prog 36 #[.int .i64 n, .int .i64 i, .slice ol L cl, .slice op m cp] w fun e w' =>
      e = .returned (.func (.func 50) #[] #[.pointer (some ⟨w.heap.size + 1 + 1, 0, none⟩), .pointer (some ⟨w.heap.size + 1 + 1 + 1, 0, none⟩), .pointer (some ⟨w.heap.size, 0, none⟩), .pointer (some ⟨w.heap.size + 1, 0, none⟩)]) ∧
      w' = (((w.alloc (.cells #[.int .i64 n] 3)).alloc (.cells #[.int .i64 i] 3)).alloc (.cells #[.slice ol L cl] 40)).alloc (.cells #[.slice op m cp] 25) := by
  have hmf := @makes Tryd.prog
  go_enter Tryd.func36, Tryd.ntmps36
  go_wp2
  go_ret
  simp
end Go.Proofs.YtjcmihiajpgnjaaDoor
