/- The highest ones that aren't the same: path's highest. -/
import Derived.Test.YtjcmihiajpgnjaaDoorPq13
namespace Go.Proofs.YtjcmihiajpgnjaaDoor
open Go.RowKit
attribute [local go_sem] Oper.semAt_some
set_option linter.unusedVariables false
set_option linter.unusedSimpArgs false
theorem results_cells3 {fn : Func} {p q r : Tmp} {a b c : TypeId} (h : fn.results = #[.cell p a, .cell q b, .cell r c]) (tmps : Array Value) {P : Program} {w : World} {x y z : Value} {g1 g2 g3 : Nat}
    (hp : tmps.getD p undef = .pointer (some ⟨g1, 0, none⟩)) (hq : tmps.getD q undef = .pointer (some ⟨g2, 0, none⟩)) (hr : tmps.getD r undef = .pointer (some ⟨g3, 0, none⟩))
    (h1 : (loadVar a ⟨g1, 0, none⟩).run P w = .ok x w) (h2 : (loadVar b ⟨g2, 0, none⟩).run P w = .ok y w) (h3 : (loadVar c ⟨g3, 0, none⟩).run P w = .ok z w) :
    (results fn tmps).run P w = .ok (.tuple #[x, y, z]) w := by
  have hp' : tmps[p]?.getD undef = .pointer (some ⟨g1, 0, none⟩) := by simpa using hp
  have hq' : tmps[q]?.getD undef = .pointer (some ⟨g2, 0, none⟩) := by simpa using hq
  have hr' : tmps[r]?.getD undef = .pointer (some ⟨g3, 0, none⟩) := by simpa using hr
  simp [results, h, hp', hq', hr', asAddr, h1, h2, h3, Sem.run_bind, Result.andThen]
theorem loads_bytes {W : World} {g : Nat} {o : Option Addr} {l c : Nat} (h : Boxed W g 40 (.slice o l c)) : (loadVar 40 ⟨g, 0, none⟩).run Tryd.prog W = .ok (.slice o l c) W := by
  have hc := h.cell
  go_simp
theorem loads_bool {W : World} {g : Nat} {v : Bool} (h : Boxed W g 4 (.bool v)) : (loadVar 4 ⟨g, 0, none⟩).run Tryd.prog W = .ok (.bool v) W := by
  have hc := h.cell
  go_simp
theorem equal_any13 (a b : List UInt8) (o o2 : Option Addr) (c c2 : Nat) (w : World) (h1 : RowIs w o (bytesV a) c) (h2 : RowIs w o2 (bytesV b) c2) :
    Calls Tryd.prog 39 #[.slice o a.length c, .slice o2 b.length c2] w fun e w' => e = .returned (.bool (a == b)) ∧ w' = w := by
  have k1 : (convert 40 9 (.slice o a.length c)).run Tryd.prog w = .ok (.string ⟨a.toArray⟩) w := run_string h1 Tryd.underlying40 Tryd.underlying5 Tryd.underlying9 _
  have k2 : (convert 40 9 (.slice o2 b.length c2)).run Tryd.prog w = .ok (.string ⟨b.toArray⟩) w := run_string h2 Tryd.underlying40 Tryd.underlying5 Tryd.underlying9 _
  clear h1 h2
  go_enter Tryd.func39, Tryd.ntmps39
  go_wp2
  go_ret
  exact ⟨rfl, rfl⟩
theorem backwardB_any (o : Option Addr) (l c : Nat) (w : World) (q : Nat) (hq : w.heap.size = q) (W1 : World) (hW1 : w.alloc (.cells #[.slice o l c] 22) = W1) :
    Calls Tryd.prog 70 #[.slice o l c] w fun e w' => e = .returned (.func (.func 78) #[] #[.pointer (some ⟨q, 0, none⟩)]) ∧ w' = W1 := by
  have HQ := Lib.hid hq
  have HW := Lib.hid hW1
  clear hq hW1
  go_enter Tryd.func70, Tryd.ntmps70
  go_upto_region 1 with fail
  rw [HQ.out, HW.out]
  go_wp2_with fail
  go_ret
  exact ⟨rfl, rfl⟩
/-- a row of bytes lies in no block of one cell that is no byte -/
theorem RowIs.ne_box {W : World} {o : Option Addr} {z : List UInt8} {c : Nat} (h : RowIs W o (bytesV z) c) (h0 : 0 < z.length) {g : Nat} {t : TypeId} {v : Value} (hb : Boxed W g t v) (hv : ∀ k, v ≠ .int .u8 k) : ∀ ad, o = some ad → ad.block ≠ g := by
  intro ad e ebg
  obtain ⟨b, off, e2, hlt, hc⟩ := h.cells (by rw [bytesV_length]; exact h0)
  rw [e] at e2
  cases e2
  dsimp only at ebg
  subst ebg
  obtain ⟨x, y, rfl⟩ : ∃ x y, z = x :: y := by
    cases z with
    | nil => cases h0
    | cons x y => exact ⟨x, y, rfl⟩
  have h1 := hc 0 (.int .u8 x.toNat) rfl
  unfold World.cell? at h1
  unfold Boxed at hb
  rw [hb] at h1
  cases off with
  | zero => simp at h1; exact hv _ h1
  | succ k => simp at h1
theorem RowIs.moved {W X : World} {o : Option Addr} {z : List UInt8} {c : Nat} {G : Nat → Prop} (h : RowIs W o (bytesV z) c) (hm : Rf.Mut G W X) (hne : 0 < z.length → ∀ ad, o = some ad → ¬ G ad.block) : RowIs X o (bytesV z) c :=
  ⟨h.le, h.cap, h.nil, fun h0 => by
    obtain ⟨b, off, e, hlt, hc⟩ := h.cells h0
    refine ⟨b, off, e, Nat.lt_of_lt_of_le hlt hm.size, fun j v hv => ?_⟩
    have := hc j v hv
    rw [← this]
    exact World.cell?_of_block (hm.same b hlt (hne (by rw [bytesV_length] at h0; exact h0) _ e))⟩
theorem own2_old {B : Nat} {M : Rf.Blk} (hM : ∀ k, M k → B + 2 ≤ k) {k : Nat} (hk : k < B) : ¬ Rf.own2 B M k := fun hh => by
  rcases hh with h1 | h1 | h1
  · have := hM k h1; omega
  · omega
  · omega
/-- how highest is left in a round -/
structure HgX (g N : Nat) (us bs : List (List UInt8)) (W X : World) : Prop where
  els : Rf.Mut (fun k => k = g ∨ k = g + 1 ∨ k = g + 2) W X
  at_ : ∃ (j : Nat) (o1 : Option Addr) (c1 : Nat) (o2 : Option Addr) (c2 : Nat), j < N ∧ bi us j ≠ bi bs j ∧ (∀ k, j < k → k < N → bi us k = bi bs k) ∧ Boxed X g 40 (.slice o1 (bi us j).length c1) ∧ Boxed X (g + 1) 40 (.slice o2 (bi bs j).length c2) ∧ Boxed X (g + 2) 4 (.bool true) ∧
    RowIs W o1 (bytesV (bi us j)) c1 ∧ RowIs W o2 (bytesV (bi bs j)) c2
set_option maxRecDepth 100000 in
set_option maxHeartbeats 2000000 in
theorem highest_any (F1 F2 : Value) (us bs : List (List UInt8)) (N : Nat) (ha : us.length = N) (hb : bs.length = N) (w : World)
    (h1 : ∀ W, Below w.heap.size w W → Calls Tryd.prog 69 #[F1] W fun e w' => ∃ o c, e = .returned (.slice o N c) ∧ RbIs w' o us c ∧ Below W.heap.size W w')
    (h2 : ∀ W, Below w.heap.size w W → Calls Tryd.prog 69 #[F2] W fun e w' => ∃ o c, e = .returned (.slice o N c) ∧ RbIs w' o bs c ∧ Below W.heap.size W w' ∧ ∀ ad, o = some ad → W.heap.size ≤ ad.block) :
    Calls Tryd.prog 56 #[F1, F2] w fun e w' => Below w.heap.size w w' ∧ ((e = .returned (.tuple #[.slice none 0 0, .slice none 0 0, .bool false]) ∧ us = bs) ∨
      ∃ (j : Nat) (o1 : Option Addr) (c1 : Nat) (o2 : Option Addr) (c2 : Nat), j < N ∧ bi us j ≠ bi bs j ∧ (∀ k, j < k → k < N → bi us k = bi bs k) ∧ e = .returned (.tuple #[.slice o1 (bi us j).length c1, .slice o2 (bi bs j).length c2, .bool true]) ∧ RowIs w' o1 (bytesV (bi us j)) c1 ∧ RowIs w' o2 (bytesV (bi bs j)) c2) := by
  obtain ⟨g, hg⟩ : ∃ g, w.heap.size = g := ⟨_, rfl⟩
  obtain ⟨W1, hW1⟩ : ∃ W1, w.alloc (.cells #[.slice none 0 0] 40) = W1 := ⟨_, rfl⟩
  have hs1 : W1.heap.size = g + 1 := by rw [← hW1, World.size_alloc, hg]
  have hb1 : Below w.heap.size w W1 := by rw [← hW1]; exact new12 _ _
  have x1 : Boxed W1 g 40 (.slice none 0 0) := by rw [← hW1, ← hg]; exact Boxed.new _ _ _
  obtain ⟨W2, hW2⟩ : ∃ W2, W1.alloc (.cells #[.slice none 0 0] 40) = W2 := ⟨_, rfl⟩
  have hs2 : W2.heap.size = g + 2 := by rw [← hW2, World.size_alloc, hs1]
  have hb2 : Below W1.heap.size W1 W2 := by rw [← hW2]; exact new12 _ _
  have x2 : Boxed W2 (g + 1) 40 (.slice none 0 0) := by rw [← hW2, ← hs1]; exact Boxed.new _ _ _
  obtain ⟨W3, hW3⟩ : ∃ W3, W2.alloc (.cells #[.bool false] 4) = W3 := ⟨_, rfl⟩
  have hs3 : W3.heap.size = g + 3 := by rw [← hW3, World.size_alloc, hs2]
  have hb3 : Below W2.heap.size W2 W3 := by rw [← hW3]; exact new12 _ _
  have x3 : Boxed W3 (g + 2) 4 (.bool false) := by rw [← hW3, ← hs2]; exact Boxed.new _ _ _
  have hB3 := Kit.step (Kit.step hb1 hb2) hb3
  have HX : Hid (Boxed W3 g 40 (.slice none 0 0) ∧ Boxed W3 (g + 1) 40 (.slice none 0 0) ∧ Boxed W3 (g + 2) 4 (.bool false)) := Lib.hid ⟨boxed_later (boxed_later x1 hb2) hb3, boxed_later x2 hb3, x3⟩
  have HB3 := Lib.hid hB3
  have HS3 := Lib.hid hs3
  have HG := Lib.hid hg
  have HW1 := Lib.hid hW1
  have HW2 := Lib.hid hW2
  have HW3 := Lib.hid hW3
  have HS1 := Lib.hid hs1
  have HS2 := Lib.hid hs2
  have HC1 := Lib.hid h1
  have HC2 := Lib.hid h2
  have HA := Lib.hid ha
  have HBL := Lib.hid hb
  clear hg hW1 hs1 hb1 x1 hW2 hs2 hb2 x2 hW3 hs3 hb3 x3 hB3 h1 h2 ha hb
  refine Rf.calls_marks Tryd.func56 rfl ?_
  simp only [Tryd.ntmps56, List.size_toArray, List.length_cons, List.length_nil, Nat.reduceAdd, Nat.reduceSub, Array.replicate_succ, Array.replicate_zero, List.push_toArray, List.append_toArray, List.nil_append, List.cons_append]
  go_upto_region 1 with fail
  rw [HW1.out, HW2.out, HW3.out]
  try rw [HS2.out]
  try rw [HS1.out]
  try rw [HG.out]
  have C1 := Lib.hid (HC1.out W3 HB3.out)
  go_wp2_with fail
  refine C1.out.mono ?_
  rintro e W4 ⟨o1, c1, rfl, hr1, hb4⟩
  have HB4 := Lib.hid (Kit.step HB3.out hb4)
  have HR4 := Lib.hid hr1
  have HBW4 := Lib.hid hb4
  clear hb4 hr1 C1
  have C2 := Lib.hid (HC2.out W4 HB4.out)
  go_wp2_with fail
  refine C2.out.mono ?_
  rintro e W5 ⟨o2, c2, rfl, hr2, hb5, hnb⟩
  have HNB : Hid (∀ ad, o2 = some ad → g + 2 < ad.block) := Lib.hid fun ad e => by have := hnb ad e; have := HBW4.out.size; have := HS3.out; omega
  clear hnb
  obtain ⟨p, hp⟩ : ∃ p, W5.heap.size = p := ⟨_, rfl⟩
  obtain ⟨W6, hW6⟩ : ∃ W6, W5.alloc (.cells #[.slice o2 N c2] 22) = W6 := ⟨_, rfl⟩
  have hs6 : W6.heap.size = p + 1 := by rw [← hW6, World.size_alloc, hp]
  have hb6 : Below W5.heap.size W5 W6 := by rw [← hW6]; exact new12 _ _
  have x6 : Boxed W6 p 22 (.slice o2 N c2) := by rw [← hW6, ← hp]; exact Boxed.new _ _ _
  obtain ⟨W7, hW7⟩ : ∃ W7, W6.alloc (.cells #[.slice o1 N c1] 22) = W7 := ⟨_, rfl⟩
  have BW := backwardB_any o1 N c1 W6 (p + 1) hs6 W7 hW7
  have hb7 : Below W6.heap.size W6 W7 := by rw [← hW7]; exact new12 _ _
  have x7 : Boxed W7 (p + 1) 22 (.slice o1 N c1) := by rw [← hW7, ← hs6]; exact Boxed.new _ _ _
  have hs7 : W7.heap.size = p + 2 := by rw [← hW7, World.size_alloc, hs6]
  have hb37 := Kit.step (Kit.step (Kit.step HBW4.out hb5) hb6) hb7
  have HX7 : Hid (Boxed W7 g 40 (.slice none 0 0) ∧ Boxed W7 (g + 1) 40 (.slice none 0 0) ∧ Boxed W7 (g + 2) 4 (.bool false) ∧ Boxed W7 p 22 (.slice o2 N c2) ∧ Boxed W7 (p + 1) 22 (.slice o1 N c1) ∧ RbIs W7 o1 us c1 ∧ RbIs W7 o2 bs c2 ∧ g + 2 < p) := Lib.hid
    ⟨boxed_later HX.out.1 hb37, boxed_later HX.out.2.1 hb37, boxed_later HX.out.2.2 hb37, boxed_later x6 hb7, x7, HR4.out.later (Kit.step (Kit.step hb5 hb6) hb7), hr2.later (Kit.step hb6 hb7), by have := HBW4.out.size; have := hb5.size; have := HS3.out; omega⟩
  have HB7 := Lib.hid (Kit.step HB3.out hb37)
  have HS7 := Lib.hid hs7
  have HBK := Lib.hid BW
  have HW6 := Lib.hid hW6
  have HP := Lib.hid hp
  clear hr2 hb5 hp hW6 hs6 hb6 x6 hW7 BW hb7 x7 hs7 hb37 C2
  go_upto_region 2 with fail
  try rw [HP.out]
  rw [HW6.out]
  go_wp2_with fail
  refine HBK.out.mono ?_
  rintro e w7 ⟨rfl, rfl⟩
  rename World => W7
  go_wp2_with fail
  refine Rf.range_toldM (α := Nat × Option Addr × Nat × List UInt8) (σ := Nat) rfl (enters_of Tryd.func78 (by kernel_rfl) rfl) (fun x => #[.int .i64 (x.1 : Int), .slice x.2.1 x.2.2.2.length x.2.2.1]) (fun _ => rfl) _ _ _ _ (backsB_gives us o1 N c1 (p + 1) HA.out)
    (fun k => k = g ∨ k = g + 1 ∨ k = g + 2)
    (fun O M s X => (∀ k, O k ↔ k = g ∨ k = g + 1 ∨ k = g + 2) ∧ Rf.Mut (fun _ => False) W7 X ∧ ∀ k, N - s ≤ k → k < N → bi us k = bi bs k)
    (fun c O M X => c = .ret ∧ HgX g N us bs W7 X ∧ True)
    ?hO0 ?hI ?hIx ?hP ?hV ?h0 ?round ?done ?stop
  case hO0 =>
    rintro k hk
    have := HS7.out
    have := HX7.out.2.2.2.2.2.2.2
    omega
  case hP => exact fun O M s X ⟨hO, hm, hk⟩ => ⟨box_block HX7.out.2.2.2.2.1 (hm.same _ HX7.out.2.2.2.2.1.lt (fun h => h)), HX7.out.2.2.2.2.2.1.later (hm.below (fun k hk e => e) (Nat.le_refl _))⟩
  case h0 => exact fun M hM => ⟨fun _ => Iff.rfl, Rf.Mut.refl _ _, fun k h1 h2 => by omega⟩
  case hV => exact fun M s x s' X X' h k => ⟨h.1, h.2.1, h.2.2.1, h.2.2.2.1, h.2.2.2.2.1.nc k, fun b off e => k.cell (h.2.2.2.2.2 b off e)⟩
  case hI =>
    intro O M s X X' hM h k
    exact ⟨h.1, ⟨k.os.trans h.2.1.os, k.tape.trans h.2.1.tape, k.output.trans h.2.1.output, Nat.le_trans h.2.1.size k.size, fun i hi hn => (k.same i (Nat.lt_of_lt_of_le hi h.2.1.size) (own2_old hM hi)).trans (h.2.1.same i hi hn)⟩, h.2.2⟩
  case hIx =>
    intro c O M X X' hM h k
    obtain ⟨hc, ⟨hels, j, a1, d1, a2, d2, q1, q2, q3, b1, b2, b3, r1, r2⟩, _⟩ := h
    have hlt : g + 2 < W7.heap.size := by have := HX7.out.2.2.2.2.2.2.2; have := HS7.out; omega
    exact ⟨hc, ⟨⟨k.os.trans hels.os, k.tape.trans hels.tape, k.output.trans hels.output, Nat.le_trans hels.size k.size, fun i hi hn => (k.same i (Nat.lt_of_lt_of_le hi hels.size) (own2_old hM hi)).trans (hels.same i hi hn)⟩,
      j, a1, d1, a2, d2, q1, q2, q3, box_block b1 (k.same _ b1.lt (own2_old hM (by omega))), box_block b2 (k.same _ b2.lt (own2_old hM (by omega))), box_block b3 (k.same _ b3.lt (own2_old hM (by omega))), r1, r2⟩, trivial⟩
  case done =>
    rintro O M s X hM hMX hOX hD1 hs ⟨hO, hm, hk⟩ hK'
    have heq : us = bs := by
      refine List.ext_getElem (by rw [HA.out, HBL.out]) fun k h1 h2 => ?_
      have := hk k (by omega) (by have := HA.out; omega)
      simpa [bi, List.getD_eq_getElem?_getD, List.getElem?_eq_getElem h1, List.getElem?_eq_getElem h2] using this
    obtain ⟨y1, y2, y3, _⟩ := HX7.out
    have y1 := box_block y1 (hm.same _ y1.lt (fun h => h))
    have y2 := box_block y2 (hm.same _ y2.lt (fun h => h))
    have y3 := box_block y3 (hm.same _ y3.lt (fun h => h))
    obtain ⟨Z1, hZ1⟩ : ∃ Z1, X.setCell ⟨g, 0, none⟩ (.slice none 0 0) = Z1 := ⟨_, rfl⟩
    have k1 : X.grownBy Z1 (some g) := by rw [← hZ1]; exact grownBy_setCell' _ _ _
    have v1 : Boxed Z1 g 40 (.slice none 0 0) := by rw [← hZ1]; exact y1.set _
    have v2 := box_block y2 (k1.block (g + 1) y2.lt (by simp))
    have v3 := box_block y3 (k1.block (g + 2) y3.lt (by simp))
    obtain ⟨Z2, hZ2⟩ : ∃ Z2, Z1.setCell ⟨g + 1, 0, none⟩ (.slice none 0 0) = Z2 := ⟨_, rfl⟩
    have k2 : Z1.grownBy Z2 (some (g + 1)) := by rw [← hZ2]; exact grownBy_setCell' _ _ _
    have u1 := box_block v1 (k2.block g v1.lt (by simp))
    have u2 : Boxed Z2 (g + 1) 40 (.slice none 0 0) := by rw [← hZ2]; exact v2.set _
    have u3 := box_block v3 (k2.block (g + 2) v3.lt (by simp))
    obtain ⟨Z3, hZ3⟩ : ∃ Z3, Z2.setCell ⟨g + 2, 0, none⟩ (.bool false) = Z3 := ⟨_, rfl⟩
    have k3 : Z2.grownBy Z3 (some (g + 2)) := by rw [← hZ3]; exact grownBy_setCell' _ _ _
    have t1 := box_block u1 (k3.block g u1.lt (by simp))
    have t2 := box_block u2 (k3.block (g + 1) u2.lt (by simp))
    have t3 : Boxed Z3 (g + 2) 4 (.bool false) := by rw [← hZ3]; exact u3.set _
    have ca := y1.cell
    have fa := y1.frozen
    have cb := v2.cell
    have fb := v2.frozen
    have cc := u3.cell
    have fc := u3.frozen
    have HZ1 := Lib.hid hZ1
    have HZ2 := Lib.hid hZ2
    have HZ3 := Lib.hid hZ3
    have HT := Lib.hid (And.intro t1 (And.intro t2 t3))
    have HEQ := Lib.hid heq
    have HM := Lib.hid hm
    have HK1 := Lib.hid (And.intro k1 (And.intro k2 k3))
    have HKK := Lib.hid hK'
    have HBX : Hid (Below w.heap.size w X) := Lib.hid (HB7.out.trans (hm.below (fun k hk e => e) HB7.out.size))
    clear hM hMX hOX hD1 hO hm hk hK' heq y1 y2 y3 hZ1 hZ2 hZ3 k1 k2 k3 v1 v2 v3 u1 u2 u3 t1 t2 t3 hs
    go_upto_region 7 with fail
    apply wp_region_lit
    (refine wpList_plain rfl (fun K hK => ?_); go_simp; refine hK _ _ ?_; clear hK K)
    rw [HZ1.out]
    (refine wpList_plain rfl (fun K hK => ?_); go_simp; refine hK _ _ ?_; clear hK K)
    try rw [HZ2.out]
    (refine wpList_plain rfl (fun K hK => ?_); go_simp; refine hK _ _ ?_; clear hK K)
    try rw [HZ3.out]
    go_wp2_with fail
    obtain ⟨k1, k2, k3⟩ := HK1.out
    obtain ⟨t1, t2, t3⟩ := HT.out
    have hgw := HG.out
    have hp7 : g + 2 < W7.heap.size := by have := HX7.out.2.2.2.2.2.2.2; have := HS7.out; omega
    have hlX := (Array.getElem?_eq_some_iff.1 HKK.out).1
    have hK3 : Z3.heap[W7.heap.size]? = some (.deferred (some [])) := by
      rw [k3.block _ (by have := k1.size; have := k2.size; omega) (by simp; omega), k2.block _ (by have := k1.size; omega) (by simp; omega), k1.block _ hlX (by simp; omega)]
      exact HKK.out
    have hput : ∀ k, k ≠ W7.heap.size → (Z3.putObj W7.heap.size (.deferred none)).heap[k]? = Z3.heap[k]? := fun k hk => World.putObj_heap_other hk
    have hb1 : Below w.heap.size w Z1 := Below.grown HBX.out k1 HBX.out.size (fun k e => by cases e; omega)
    have hb2 : Below w.heap.size w Z2 := Below.grown hb1 k2 hb1.size (fun k e => by cases e; omega)
    have hb3 : Below w.heap.size w Z3 := Below.grown hb2 k3 hb2.size (fun k e => by cases e; omega)
    refine Rf.leaves hK3 (results_cells3 rfl _ (g1 := g) (g2 := g + 1) (g3 := g + 2) rfl rfl rfl (loads_bytes (box_block t1 (hput _ (by omega)))) (loads_bytes (box_block t2 (hput _ (by omega)))) (loads_bool (box_block t3 (hput _ (by omega))))) ?_
    exact ⟨hb3.trans (belowK_b (w := w) (Nat.le_refl _) Z3 W7.heap.size _ _ (by have := HB7.out.size; exact this) hK3 rfl rfl), .inl ⟨rfl, HEQ.out⟩⟩
  case stop =>
    rintro c O M X hM ⟨rfl, ⟨hels, j, a1, d1, a2, d2, q1, q2, q3, b1, b2, b3, r1, r2⟩, _⟩ hK'
    obtain ⟨y1, y2, y3, _⟩ := HX7.out
    have hgw := HG.out
    have hp7 : g + 2 < W7.heap.size := by have := HX7.out.2.2.2.2.2.2.2; have := HS7.out; omega
    have hput : ∀ k, k ≠ W7.heap.size → (X.putObj W7.heap.size (.deferred none)).heap[k]? = X.heap[k]? := fun k hk => World.putObj_heap_other hk
    have hbX : Below w.heap.size w X := HB7.out.trans (hels.below (fun k hk e => by omega) HB7.out.size)
    have hbP := belowK_b (w := w) (Nat.le_refl _) X W7.heap.size (.deferred (some [])) (.deferred none) (by have := HB7.out.size; exact this) hK' rfl rfl
    have nb : ∀ {o : Option Addr} {z : List UInt8} {c : Nat}, RowIs W7 o (bytesV z) c → RowIs X o (bytesV z) c := fun {o z c} h => h.moved hels fun h0 ad e hh => by
      rcases hh with e1 | e1 | e1
      · exact h.ne_box h0 y1 (fun k => by simp) ad e e1
      · exact h.ne_box h0 y2 (fun k => by simp) ad e e1
      · exact h.ne_box h0 y3 (fun k => by simp) ad e e1
    have np : ∀ {o : Option Addr} {z : List UInt8} {c : Nat}, RowIs W7 o (bytesV z) c → RowIs (X.putObj W7.heap.size (.deferred none)) o (bytesV z) c := fun {o z c} h => (nb h).nc (Rf.NC.put (B := 0) (.deferred none) (Nat.zero_le _) hK' rfl)
    go_wp2_with fail
    refine Rf.leaves hK' (results_cells3 rfl _ (g1 := g) (g2 := g + 1) (g3 := g + 2) rfl rfl rfl (loads_bytes (box_block b1 (hput _ (by omega)))) (loads_bytes (box_block b2 (hput _ (by omega)))) (loads_bool (box_block b3 (hput _ (by omega))))) ?_
    exact ⟨hbX.trans hbP, .inr ⟨j, a1, d1, a2, d2, q1, q2, q3, rfl, np r1, np r2⟩⟩
  case round =>
    rintro l O M s x s' X Z' To hM hMX hOX hDX ⟨hO, hm, hk⟩ ⟨rfl, hsn, hx1, hx2, hrow, hcell⟩ hsz hrec hdef HN' HR' HE'
    obtain ⟨i, p1, q1, B⟩ := x
    dsimp only at hx1 hx2 hrow hcell
    rw [← hx1] at hx2
    subst hx2
    obtain ⟨_, _, _, z4, z5, z6, z7, z8⟩ := HX7.out
    have hin : i < N := by omega
    have hbX7 : Below W7.heap.size W7 X := hm.below (fun k hk e => e) (Nat.le_refl _)
    obtain ⟨b2, off2, p2, q2, rfl, hb2, hc2, hr2⟩ := z7.cell i (by rw [HBL.out]; exact hin)
    obtain ⟨b1, off1, p1', q1', rfl, hb1, hc1, hr1⟩ := z6.cell i (by rw [HA.out]; exact hin)
    have h0 := hcell b1 off1 rfl
    rw [hbX7.cell (p := ⟨b1, off1 + i, none⟩) hb1, hc1] at h0
    injection h0 with h0
    injection h0 with h01 h02 h03
    subst h01
    subst h03
    have hn2 := z7.le
    rw [HBL.out] at hn2
    unfold maxLen at hn2
    obtain ⟨U, hU⟩ : ∃ U, bi us i = U := ⟨_, rfl⟩
    obtain ⟨V, hV⟩ : ∃ V, bi bs i = V := ⟨_, rfl⟩
    rw [hU] at hr1
    rw [hV] at hr2 hc2
    have HU := Lib.hid hU
    have HV := Lib.hid hV
    have HR1 := Lib.hid hr1
    have HR2 := Lib.hid hr2
    have HC2' := Lib.hid hc2
    have HK := Lib.hid hk
    have HMM := Lib.hid hm
    have HO := Lib.hid hO
    have HOX := Lib.hid hOX
    have HB7X := Lib.hid hbX7
    have HIN := Lib.hid hx1
    have HIN0 := Lib.hid hin
    have HBB := Lib.hid hb2
    have HZ4 := Lib.hid z4
    have HN2 := Lib.hid hn2
    rw [hU]
    have hck : i < c2 := by omega
    clear hU hV hr1 hr2 hc2 hk hm hO hOX hbX7 hx1 hb2 hb1 hc1 h02 hrow hcell z4 z5 z6 z7 z8 hn2 hM hMX hDX hsz hrec hdef
    gi_wp2
    refine ⟨Below.refl _ _, fun Y hY hnew hsy => ?_⟩
    have hY7 := Kit.step HB7X.out hY
    have hcp := (boxed_later HZ4.out hY7).cell
    have hcc : Y.cell? ⟨b2, off2 + i, none⟩ = some (.slice p2 V.length q2) := by rw [hY7.cell (p := ⟨b2, off2 + i, none⟩) HBB.out]; exact HC2'.out
    have EQ := equal_any13 U V p1' p2 q1' q2 Y (HR1.out.later hY7) (HR2.out.later hY7)
    obtain ⟨VL, hVL⟩ : ∃ VL, V.length = VL := ⟨_, rfl⟩
    obtain ⟨UL, hUL⟩ : ∃ UL, U.length = UL := ⟨_, rfl⟩
    rw [hVL] at hcc EQ
    rw [hUL] at EQ ⊢
    have HEQ := Lib.hid EQ
    have HVL := Lib.hid hVL
    have HUL := Lib.hid hUL
    have HY := Lib.hid hY
    have HY7 := Lib.hid hY7
    clear EQ hVL hUL hY hY7 hnew hsy
    gi_upto_region 5 with fail
    gi_wp2
    refine ⟨trivial, rfl, ?_⟩
    refine (CallsIn.inRound l ((callsIn_wide (n := 0)).2 HEQ.out)).mono ?_
    rintro e y ⟨rfl, rfl⟩
    rename World => Y
    by_cases hq : U = V
    · have hbq : (U == V) = true := by rw [hq]; exact beq_self_eq_true _
      have HQ := Lib.hid hq
      rw [hbq]
      clear hq hbq
      gi_wp2
      refine HN'.out _ _ _ (Rf.Fr.of_below HY.out fun k hk => (HOX.out k hk).1) ⟨HO.out, HMM.out.trans (.of_below HY.out), fun k h1 h2 => ?_⟩
      by_cases hki : k = i
      · rw [hki, HU.out, HV.out]; exact HQ.out
      · exact HK.out k (by have := HIN.out; omega) h2
    · have hbq : (U == V) = false := by simpa using hq
      have HQ := Lib.hid hq
      rw [hbq]
      clear hq hbq
      gi_upto_region 6 with fail
      obtain ⟨y1, y2, y3, z4, _⟩ := HX7.out
      have hY7 := HY7.out
      have x1 : Boxed Y.drew g 40 (.slice none 0 0) := boxed_later y1 (Kit.step hY7 (Kit.dn' Y 1))
      have x2 : Boxed Y.drew (g + 1) 40 (.slice none 0 0) := boxed_later y2 (Kit.step hY7 (Kit.dn' Y 1))
      have x3 : Boxed Y.drew (g + 2) 4 (.bool false) := boxed_later y3 (Kit.step hY7 (Kit.dn' Y 1))
      obtain ⟨Z1, hZ1⟩ : ∃ Z1, (Y.setCell ⟨g, 0, none⟩ (.slice p1' UL q1')).drew = Z1 := ⟨_, rfl⟩
      obtain ⟨Z2, hZ2⟩ : ∃ Z2, Z1.setCell ⟨g + 1, 0, none⟩ (.slice p2 VL q2) = Z2 := ⟨_, rfl⟩
      obtain ⟨Z3, hZ3⟩ : ∃ Z3, Z2.setCell ⟨g + 2, 0, none⟩ (.bool true) = Z3 := ⟨_, rfl⟩
      have k1 : Y.drew.grownBy Z1 (some g) := by rw [← hZ1]; exact grownBy_setCell' Y.drew _ _
      have k2 : Z1.grownBy Z2 (some (g + 1)) := by rw [← hZ2]; exact grownBy_setCell' _ _ _
      have k3 : Z2.grownBy Z3 (some (g + 2)) := by rw [← hZ3]; exact grownBy_setCell' _ _ _
      have v2 := box_block x2 (k1.block (g + 1) x2.lt (by simp))
      have u3 := box_block (box_block x3 (k1.block (g + 2) x3.lt (by simp))) (k2.block (g + 2) (by have := k1.size; have := x3.lt; omega) (by simp))
      have hp7 : g + 2 < p := HX7.out.2.2.2.2.2.2.2
      have hszY := hY7.size
      have hS7 := HS7.out
      have hpne : ∀ k, W7.heap.size ≤ k ∨ k = p → k ≠ g ∧ k ≠ g + 1 ∧ k ≠ g + 2 := fun k hk => by omega
      obtain ⟨C, hC⟩ : ∃ C : World → Prop, (fun v : World => v.cell? ⟨p, 0, none⟩ = some (.slice (some ⟨b2, off2, none⟩) N c2) ∧ v.cell? ⟨b2, off2 + i, none⟩ = some (.slice p2 VL q2)) = C := ⟨_, rfl⟩
      have HCP : Hid (∀ v, C v → v.cell? ⟨p, 0, none⟩ = some (.slice (some ⟨b2, off2, none⟩) N c2)) := Lib.hid fun v hv => by rw [← hC] at hv; exact hv.1
      have HCC : Hid (∀ v, C v → v.cell? ⟨b2, off2 + i, none⟩ = some (.slice p2 VL q2)) := Lib.hid fun v hv => by rw [← hC] at hv; exact hv.2
      have hC0 : C Y.drew := by rw [← hC]; exact ⟨hcp, hcc⟩
      have hcell : ∀ {A B : World} {k : Nat} (ad : Addr), A.grownBy B (some k) → ad.block < A.heap.size → ad.block ≠ k → B.cell? ad = A.cell? ad := fun ad hg hl hne => World.cell?_of_block (hg.block _ hl (fun e => hne (by injection e)))
      have hnb2 : g + 2 < b2 := HNB.out ⟨b2, off2, none⟩ rfl
      have hlp : p < Y.drew.heap.size := by have : Y.drew.heap.size = Y.heap.size := rfl; omega
      have hlb : b2 < Y.drew.heap.size := by have : Y.drew.heap.size = Y.heap.size := rfl; have := HBB.out; omega
      have hl1 := k1.size
      have hl2 := k2.size
      have hl3 := k3.size
      have hC1 : C Z1 := by
        rw [← hC] at hC0 ⊢
        exact ⟨(hcell ⟨p, 0, none⟩ k1 hlp (by dsimp only; omega)).trans hC0.1, (hcell ⟨b2, off2 + i, none⟩ k1 hlb (by dsimp only; omega)).trans hC0.2⟩
      have hC2 : C Z2 := by
        rw [← hC] at hC1 ⊢
        exact ⟨(hcell ⟨p, 0, none⟩ k2 (by dsimp only; omega) (by dsimp only; omega)).trans hC1.1, (hcell ⟨b2, off2 + i, none⟩ k2 (by dsimp only; omega) (by dsimp only; omega)).trans hC1.2⟩
      have hC3 : C Z3 := by
        rw [← hC] at hC2 ⊢
        exact ⟨(hcell ⟨p, 0, none⟩ k3 (by dsimp only; omega) (by dsimp only; omega)).trans hC2.1, (hcell ⟨b2, off2 + i, none⟩ k3 (by dsimp only; omega) (by dsimp only; omega)).trans hC2.2⟩
      have w1 : Boxed Z1 g 40 (.slice p1' UL q1') := by rw [← hZ1]; exact x1.set _
      have w2 := box_block w1 (k2.block g w1.lt (by simp))
      have w3 := box_block w2 (k3.block g w2.lt (by simp))
      have y5 : Boxed Z2 (g + 1) 40 (.slice p2 VL q2) := by rw [← hZ2]; exact v2.set _
      have y6 := box_block y5 (k3.block (g + 1) y5.lt (by simp))
      have y7 : Boxed Z3 (g + 2) 4 (.bool true) := by rw [← hZ3]; exact u3.set _
      have HBX := Lib.hid (And.intro w3 (And.intro y6 y7))
      have HGP : Hid (g + 2 < W7.heap.size) := Lib.hid (by omega)
      have ca := x1.cell
      have fa := x1.frozen
      have cb := v2.cell
      have fb := v2.frozen
      have cc := u3.cell
      have fc := u3.frozen
      have HZ1 := Lib.hid hZ1
      have HZ2 := Lib.hid hZ2
      have HZ3 := Lib.hid hZ3
      have HKS := Lib.hid (And.intro k1 (And.intro k2 k3))
      have HVV := Lib.hid (And.intro x1 (And.intro v2 u3))
      clear hZ1 hZ2 hZ3 hC y1 y2 y3 z4 hY7 x1 x2 x3 k1 k2 k3 v2 u3 hp7 hszY hS7 hpne hcp hcc hcell hnb2 hlp hlb hl1 hl2 hl3 w1 w2 w3 y5 y6 y7
      refine Rgt.round C (fun _ => false) (by kernel_rfl) (by kernel_rfl) (by rintro ⟨a, w, h⟩; exact h) ?_
      refine Rgt.take (i := 0) (x := .slice p1' UL q1') rfl rfl (by kernel_rfl) (by kernel_rfl) (by kernel_rfl) (by kernel_rfl) (fun _ _ _ h => h) (Or.inl ⟨by kernel_rfl, fun w hw => by (go_simp <;> with_reducible rfl)⟩) hC0 ?_
      go_simp
      refine Rgt.take (i := 1) (x := .slice (some ⟨b2, off2, none⟩) N c2) rfl rfl (by kernel_rfl) (by kernel_rfl) (by kernel_rfl) (by kernel_rfl) (fun _ _ _ h => h) (Or.inl ⟨by kernel_rfl, fun w hw => by have hc := HCP.out w hw; (go_simp <;> with_reducible rfl)⟩) hC0 ?_
      go_simp
      refine Rgt.take (i := 2) (x := .int .i64 (i : Int)) rfl rfl (by kernel_rfl) (by kernel_rfl) (by kernel_rfl) (by kernel_rfl) (fun _ _ _ h => h) (Or.inl ⟨by kernel_rfl, fun w hw => by (go_simp <;> with_reducible rfl)⟩) hC0 ?_
      go_simp
      refine Rgt.take (i := 3) (x := .pointer (some ⟨b2, off2 + i, none⟩)) rfl rfl (by kernel_rfl) (by kernel_rfl) (by kernel_rfl) (by kernel_rfl) (fun _ _ _ h => h) (Or.inl ⟨by kernel_rfl, fun w hw => by (go_simp <;> with_reducible rfl)⟩) hC0 ?_
      go_simp
      refine Rgt.take (i := 4) (x := .slice p2 VL q2) rfl rfl (by kernel_rfl) (by kernel_rfl) (by kernel_rfl) (by kernel_rfl) (fun _ _ _ h => h) (Or.inl ⟨by kernel_rfl, fun w hw => by have hc := HCC.out w hw; (go_simp <;> with_reducible rfl)⟩) hC0 ?_
      go_simp
      refine Rgt.ready (i := 5) (by kernel_rfl) rfl (by kernel_rfl) (fun K hK => ?_)
      go_simp
      try rw [HZ1.out]
      refine hK _ _ hC1 ?_
      clear hK K
      refine Rgt.ready (i := 6) (by kernel_rfl) rfl (by kernel_rfl) (fun K hK => ?_)
      go_simp
      try rw [HZ2.out]
      refine hK _ _ hC2 ?_
      clear hK K
      refine Rgt.ready (i := 7) (by kernel_rfl) rfl (by kernel_rfl) (fun K hK => ?_)
      go_simp
      try rw [HZ3.out]
      refine hK _ _ hC3 ?_
      clear hK K
      refine Rgt.done (by kernel_rfl) ?_ _
      gi_wp2
      obtain ⟨k1, k2, k3⟩ := HKS.out
      obtain ⟨w3, y6, y7⟩ := HBX.out
      have hY0 : Below X.heap.size X Y.drew := Kit.step HY.out (Kit.dn' Y 1)
      have hOg : ∀ k, O k ↔ k = g ∨ k = g + 1 ∨ k = g + 2 := HO.out
      have hgp := HGP.out
      have hl0 := hY0.size
      have hl1 := k1.size
      have hl2 := k2.size
      have hlX := HMM.out.size
      have f1 : Rf.Fr O X O Z1 := (Rf.Fr.of_below hY0 (fun k hk => (HOX.out k hk).1)).trans (.grown k1 (fun k hk => by rcases (hOg k).1 hk with e | e | e <;> omega) (fun k e => (hOg k).2 (by injection e with e; omega)))
      have f2 : Rf.Fr O X O Z2 := f1.trans (.grown k2 (fun k hk => by rcases (hOg k).1 hk with e | e | e <;> omega) (fun k e => (hOg k).2 (by injection e with e; omega)))
      have f3 : Rf.Fr O X O Z3 := f2.trans (.grown k3 (fun k hk => by rcases (hOg k).1 hk with e | e | e <;> omega) (fun k e => (hOg k).2 (by injection e with e; omega)))
      have m0 : Rf.Mut (fun k => k = g ∨ k = g + 1 ∨ k = g + 2) W7 Y.drew := (HMM.out.mono (fun k e => e.elim)).trans (.of_below hY0)
      have m3 := ((m0.trans (.grown k1 (fun k e => by injection e with e; omega))).trans (.grown k2 (fun k e => by injection e with e; omega))).trans (.grown k3 (fun k e => by injection e with e; omega))
      refine HR'.out _ _ _ f3 ⟨trivial, ⟨m3, i, p1', q1', p2, q2, HIN0.out, ?_, fun k h1 h2 => HK.out k (by have := HIN.out; omega) h2, ?_, ?_, y7, ?_, ?_⟩, trivial⟩
      · rw [HU.out, HV.out]; exact HQ.out
      · rw [HU.out, HUL.out]; exact w3
      · rw [HV.out, HVL.out]; exact y6
      · rw [HU.out]; exact HR1.out
      · rw [HV.out]; exact HR2.out
end Go.Proofs.YtjcmihiajpgnjaaDoor
