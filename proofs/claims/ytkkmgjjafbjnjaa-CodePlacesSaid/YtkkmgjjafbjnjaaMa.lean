/- Contract of multiplyAll: the product of factors that an iterator hands over. -/
import Derived.Test.YtkkmgjjafbjnjaaRo
namespace Go.Proofs.Ytkkmgjjafbjnjaa
open Go.RowKit
set_option linter.unusedVariables false
attribute [local go_sem] Oper.semAt_some
/-- the product of the first factors -/
def prodL (F : UInt8 → List UInt8) (z : List UInt8) : Nat → List UInt8
  | 0 => [1]
  | n + 1 => mulL (prodL F z n) (F (co z n))
theorem prodL_length (F : UInt8 → List UInt8) (z : List UInt8) (hF : ∀ x, (F x).length = 2) (n : Nat) : (prodL F z n).length = 1 + 2 * n := by
  induction n with
  | zero => rfl
  | succ n ih => simp [prodL, mulL, ih, hF]; omega
/-- the product so far lies where the variable in block b says -/
def SoFar (b B : Nat) (m : List UInt8) (X : World) : Prop := ∃ g cap, B ≤ g ∧ g ≠ b ∧ Boxed X b 25 (.slice (some ⟨g, 0, none⟩) (tr m).length cap) ∧ RowIs X (some ⟨g, 0, none⟩) (bytesV (tr m)) cap
theorem SoFar.nc {b B B' : Nat} {m : List UInt8} {X X' : World} (h : SoFar b B m X) (k : Rf.NC B' X X') : SoFar b B m X' := by
  obtain ⟨g, cap, h1, h2, h3, h4⟩ := h
  exact ⟨g, cap, h1, h2, k.cells h3, h4.nc k⟩
theorem row_cells {X : World} {A : Nat} {z : List UInt8} (h : X.heap[A]? = some (.cells (bytesV z).toArray 5 (0, 0))) (hm : z.length ≤ maxLen) : RowIs X (some ⟨A, 0, none⟩) (bytesV z) z.length :=
  ⟨by simp, hm, (fun e => by cases e), fun h0 => ⟨A, 0, rfl, (Array.getElem?_eq_some_iff.1 h).1, fun i v hv => by
    rw [Nat.zero_add]
    simp only [World.cell?, h]
    simpa using hv⟩⟩
theorem tr_one : tr [1] = [1] := by decide
/-- what an iterator over factors must do -/
def Factors (k : Nat) (F : UInt8 → List UInt8) (z : List UInt8) (o : Option Addr) (c Q : Nat) : Prop :=
  ∀ (l : Nat) (I : Nat → World → Prop) (B Bx : World → Prop) (w : World)
    (hI : ∀ i X, I i X → Boxed X Q 25 (.slice o z.length c) ∧ RowIs X o (bytesV z) c)
    (hA : ∀ i X ob, I i X → I i (X.alloc ob)) (hBk : ∀ X X', B X → KeepsOthers X X' → B X')
    (hturn : ∀ i A X, I i X → B X → i < z.length → X.heap[A]? = some (.cells (bytesV (F (co z i))).toArray 5 (0, 0)) →
      YieldAt Fence.wide 0 Try.prog l #[.slice (some ⟨A, 0, none⟩) 2 2] X fun e X' => (e = .returned (.bool true) ∧ I (i + 1) X' ∧ B X') ∨ (e = .returned (.bool false) ∧ Bx X'))
    (h0 : I 0 w) (hB : B w),
    Calls Try.prog k #[.func (.yield l) #[] #[], .pointer (some ⟨Q, 0, none⟩)] w fun e X => (∃ v, e = .returned v) ∧ ((I z.length X ∧ B X) ∨ Bx X)
theorem factors_roots (z : List UInt8) (o : Option Addr) (c Q : Nat) : Factors 17 (fun r => [r, 1]) z o c Q :=
  fun l I B Bx w hI hA hBk hturn h0 hB => roots_walk l I B Bx o z c Q w hI hA hBk (fun i A X a b d e => hturn i A X a b d e) h0 hB
set_option maxRecDepth 100000 in
set_option maxHeartbeats 1000000 in
theorem all_any (k : Nat) (F : UInt8 → List UInt8) (hF : ∀ x, (F x).length = 2) (z : List UInt8) (o : Option Addr) (c Q : Nat) (w : World)
    (ek : ∀ args w, (callFunc k args).run Try.prog w = .ok (.enter k args) w) (hf : Factors k F z o c Q) (hl : z.length ≤ 1000) (hQ : Boxed w Q 25 (.slice o z.length c)) (hR : RowIs w o (bytesV z) c) :
    Calls Try.prog 16 #[.func (.func k) #[] #[.pointer (some ⟨Q, 0, none⟩)]] w fun e w' => ∃ g cap, e = .returned (.slice (some ⟨g, 0, none⟩) (tr (prodL F z z.length)).length cap) ∧ w.heap.size ≤ g ∧ Below w.heap.size w w' ∧ RowIs w' (some ⟨g, 0, none⟩) (bytesV (tr (prodL F z z.length))) cap := by
  have HF := Lib.hid hf
  have HEK := Lib.hid ek
  have HFL := Lib.hid hF
  have HQ := Lib.hid hQ
  have HR := Lib.hid hR
  clear hf ek hF hQ hR
  refine Rf.calls_marks Try.func16 rfl ?_
  simp only [Try.ntmps16, List.size_toArray, List.length_cons, List.length_nil, Nat.reduceAdd, Nat.reduceSub, Array.replicate_succ, Array.replicate_zero, List.push_toArray, List.append_toArray, List.nil_append, List.cons_append]
  go_wp2_with fail
  refine (make_any _).mono ?_; rintro e w1 ⟨n, C, hC, rfl, hw1⟩
  have hT1 : TabAt w1 w.heap.size C := by rw [hw1]; exact TabAt.made hC
  have hb1 : Below w.heap.size w w1 := by rw [hw1]; exact made_below
  have hs1 : w.heap.size < w1.heap.size := (Array.getElem?_eq_some_iff.1 hT1.block).1
  have HT1 := Lib.hid hT1
  have HB1 := Lib.hid hb1
  have HC := Lib.hid hC
  have HW1 := Lib.hid hw1
  clear hC hT1 hb1 hw1
  go_wp2_with fail
  obtain ⟨w2, hw2⟩ : ∃ w2, ((w1.alloc (.cells #[.int .u8 1] 5)).alloc (.cells #[.pointer (some ⟨w.heap.size, 0, none⟩)] 39)).alloc (.cells #[.slice (some ⟨w1.heap.size, 0, none⟩) 1 1] 25) = w2 := ⟨_, rfl⟩
  have hb2 : Below w1.heap.size w1 w2 := by rw [← hw2]; exact (((Below.refl _ _).alloc (Nat.le_refl _) _).alloc (by simp) _).alloc (by simp; omega) _
  have hX3 : Boxed w2 (w1.heap.size + 1) 39 (.pointer (some ⟨w.heap.size, 0, none⟩)) := by
    rw [← hw2]
    have := Boxed.new (w1.alloc (.cells #[.int .u8 1] 5)) 39 (.pointer (some ⟨w.heap.size, 0, none⟩))
    rw [World.size_alloc] at this
    exact this.alloc _
  have hX4 : Boxed w2 (w1.heap.size + 1 + 1) 25 (.slice (some ⟨w1.heap.size, 0, none⟩) 1 1) := by
    rw [← hw2]
    have := Boxed.new ((w1.alloc (.cells #[.int .u8 1] 5)).alloc (.cells #[.pointer (some ⟨w.heap.size, 0, none⟩)] 39)) 25 (.slice (some ⟨w1.heap.size, 0, none⟩) 1 1)
    rw [World.size_alloc, World.size_alloc] at this
    exact this
  have hone : w2.heap[w1.heap.size]? = some (.cells (bytesV [1]).toArray 5 (0, 0)) := by
    rw [← hw2]
    exact ((Boxed.new w1 5 (.int .u8 1)).alloc _).alloc _
  have hs2 := hX4.lt
  have hT2 := HT1.out.later hb2
  have hQ2 := boxed_later HQ.out (Kit.step HB1.out hb2)
  have hR2 := HR.out.later (Kit.step HB1.out hb2)
  have hB2 := Kit.step HB1.out hb2
  have hQlt := HQ.out.lt
  rw [hw2]
  have HX3 := Lib.hid hX3
  have HT2 := Lib.hid hT2
  have HQ2 := Lib.hid hQ2
  have HR2 := Lib.hid hR2
  have HB2 := Lib.hid hB2
  have HAP := Lib.hid (HR.out.apart (g := w1.heap.size + 1 + 1) (by omega))
  have HI0 : Hid (SoFar (w1.heap.size + 1 + 1) w.heap.size (prodL F z 0) w2) := Lib.hid ⟨w1.heap.size, 1, by omega, by omega, by
    show Boxed w2 _ _ (.slice _ (tr [1]).length 1)
    rw [tr_one]; exact hX4, by
    show RowIs w2 _ (bytesV (tr [1])) 1
    rw [tr_one]; exact row_cells hone (by unfold maxLen; simp)⟩
  clear hX3 hT2 hQ2 hR2 hB2 hX4 hone hw2 hb2
  refine Rf.range_told (α := Nat) (σ := Nat) rfl HEK.out (fun x => #[.slice (some ⟨x, 0, none⟩) 2 2]) (fun _ => rfl)
    (fun s X => s ≤ z.length ∧ SoFar (w1.heap.size + 1 + 1) w.heap.size (prodL F z s) X ∧ Bt (w1.heap.size + 1 + 1) w2.heap.size w2 X)
    (fun c X => False)
    (fun s x s' X => s' = s + 1 ∧ s < z.length ∧ X.heap[x]? = some (.cells (bytesV (F (co z s))).toArray 5 (0, 0)))
    0 (fun s => s = z.length) ?hI ?hIx ?hV ?h0 ?hseq ?round ?done ?stop
  case hI => exact fun s X X' h k => ⟨h.1, h.2.1.nc k, h.2.2.trans (Bt.of_nc k (Nat.le_refl _))⟩
  case hIx => exact fun c X X' h k => h
  case hV => exact fun s x s' X X' h k => ⟨h.1, h.2.1, k.cells h.2.2⟩
  case h0 => exact ⟨Nat.zero_le _, HI0.out, Bt.refl _ _ _⟩
  case hseq =>
    intro l B Bx X hnc hi hB hk ht
    refine (HF.out l (fun s X => s ≤ z.length ∧ SoFar (w1.heap.size + 1 + 1) w.heap.size (prodL F z s) X ∧ Bt (w1.heap.size + 1 + 1) w2.heap.size w2 X) B Bx X ?_ ?_ hk ?_ hi hB).mono ?_
    · exact fun i X h => ⟨h.2.2.boxed HQ2.out (by omega), h.2.2.row HR2.out HAP.out⟩
    · exact fun i X ob h => ⟨h.1, h.2.1.nc (Rf.NC.alloc (B := 0) X ob), h.2.2.trans (Bt.of_nc (Rf.NC.alloc (B := w2.heap.size) X ob) (Nat.le_refl _))⟩
    · intro i A X h hB hlt hA
      exact (ht i A (i + 1) X h hB ⟨rfl, hlt, hA⟩).mono fun e X' h => h.imp (fun h => ⟨h.1, h.2.1, h.2.2⟩) id
    · rintro e X' ⟨hv, (⟨h, hB⟩ | hx)⟩
      · exact ⟨hv, .inl ⟨z.length, rfl, h, hB⟩⟩
      · exact ⟨hv, .inr hx⟩
  case round =>
    rintro l s x s' X Z To ⟨h1, ⟨g, cap, h2, h3, h4, h5⟩, h6⟩ ⟨rfl, hlt, hA⟩ HN HR HE
    have hrow := row_cells hA (by rw [HFL.out]; unfold maxLen; omega)
    have htl := tr_le (prodL F z s)
    rw [prodL_length F z HFL.out] at htl
    have hcal := multiply_any (tr (prodL F z s)) (F (co z s)) (some ⟨g, 0, none⟩) (some ⟨x, 0, none⟩) cap (F (co z s)).length w.heap.size C X h5 hrow (h6.tab HT2.out (by omega)) (by rw [HFL.out]; omega)
    have e1 : tr (mulL (tr (prodL F z s)) (F (co z s))) = tr (prodL F z (s + 1)) := tr_congr (mulL_congr (co_tr _) (fun _ => rfl))
    rw [e1, HFL.out] at hcal
    have c3 := (h6.boxed HX3.out (by omega)).cell
    have c4 := h4.cell
    have hblt := h4.lt
    have HCAL := Lib.hid hcal
    have FIN : Hid (∀ g' cap' X1, X.heap.size ≤ g' → Below X.heap.size X X1 → RowIs X1 (some ⟨g', 0, none⟩) (bytesV (tr (prodL F z (s + 1)))) cap' →
        KeepsOthers X (X1.setCell ⟨w1.heap.size + 1 + 1, 0, none⟩ (.slice (some ⟨g', 0, none⟩) (tr (prodL F z (s + 1))).length cap')) ∧ s + 1 ≤ z.length ∧ SoFar (w1.heap.size + 1 + 1) w.heap.size (prodL F z (s + 1)) (X1.setCell ⟨w1.heap.size + 1 + 1, 0, none⟩ (.slice (some ⟨g', 0, none⟩) (tr (prodL F z (s + 1))).length cap')) ∧ Bt (w1.heap.size + 1 + 1) w2.heap.size w2 (X1.setCell ⟨w1.heap.size + 1 + 1, 0, none⟩ (.slice (some ⟨g', 0, none⟩) (tr (prodL F z (s + 1))).length cap'))) := Lib.hid fun g' cap' X1 hg hb hr => by
      have ho : Only (w1.heap.size + 1 + 1) X1 (X1.setCell ⟨w1.heap.size + 1 + 1, 0, none⟩ (.slice (some ⟨g', 0, none⟩) (tr (prodL F z (s + 1))).length cap')) := grownBy_setCell' _ _ _
      refine ⟨(keeps_below hb).trans (KeepsOthers.setCell _ _ _), by omega, ⟨g', cap', by have := HB2.out.size; have := h6.size; omega, by omega, (boxed_later h4 hb).set _, ho.row hr (fun _ p e => by cases e; show g' ≠ _; omega)⟩, h6.trans (Bt.of_only ((Only.of_below hb).trans ho))⟩
    have F4 : Hid (∀ X1, Below X.heap.size X X1 → Boxed X1 (w1.heap.size + 1 + 1) 25 (.slice (some ⟨g, 0, none⟩) (tr (prodL F z s)).length cap)) := Lib.hid fun X1 hb => boxed_later h4 hb
    clear hcal hrow h5 h6 hA htl
    gi_wp2
    refine ⟨trivial, ?_⟩
    gi_wp2
    refine ⟨trivial, rfl, ?_⟩
    refine (CallsIn.inRound l ((callsIn_wide (n := 0)).2 HCAL.out)).mono ?_
    rintro e X1 ⟨g', cap', rfl, hg', hb', hr'⟩
    have b4 := F4.out X1 hb'
    have d4 := b4.cell
    have f4 := b4.frozen
    have FI := Lib.hid (FIN.out g' cap' X1 hg' hb' hr')
    clear b4 hr' HCAL FIN F4
    gi_wp2
    exact HN.out _ _ FI.out.1 FI.out.2
  case done =>
    rintro D s X hD rfl ⟨h1, ⟨g, cap, h2, h3, h4, h5⟩, h6⟩ hK
    have c4 := h4.cell
    have H5 := Lib.hid h5
    have H6 := Lib.hid h6
    clear h5 h6
    go_wp2_with fail
    refine Rf.leaves hK (results_tmp rfl _ _ _) ?_
    refine ⟨g, cap, rfl, h2, (HB2.out.trans (H6.out.below (by omega) (by have := HB2.out.size; omega) HB2.out.size)).trans (belowK_b (w := w) (Nat.le_refl _) X D _ _ (by have := HB2.out.size; omega) hK rfl rfl), ?_⟩
    exact H5.out.nc (Rf.NC.put (B := 0) _ (Nat.zero_le _) hK rfl)
  case stop => exact fun D c X hD h => h.elim
theorem roots_any (z : List UInt8) (o : Option Addr) (c : Nat) (w : World) (hl : z.length ≤ 1000) (hR : RowIs w o (bytesV z) c) :
    Calls Try.prog 13 #[.slice o z.length c] w fun e w' => ∃ g cap, e = .returned (.slice (some ⟨g, 0, none⟩) (tr (prodL (fun r => [r, 1]) z z.length)).length cap) ∧ w.heap.size ≤ g ∧ Below w.heap.size w w' ∧ RowIs w' (some ⟨g, 0, none⟩) (bytesV (tr (prodL (fun r => [r, 1]) z z.length))) cap := by
  have hmf := @makes Try.prog
  have hcal := all_any 17 (fun r => [r, 1]) (fun _ => rfl) z o c w.heap.size (w.alloc (.cells #[.slice o z.length c] 25)) (enters_of Try.func17 (by kernel_rfl) rfl) (factors_roots z o c _) hl (Boxed.new w _ _) (hR.later ((Below.refl _ _).alloc (Nat.le_refl _) _))
  have HCAL := Lib.hid hcal
  clear hcal hR
  go_enter Try.func13, Try.ntmps13
  go_wp2_with fail
  refine HCAL.out.mono ?_; rintro e w1 ⟨g, cap, rfl, hg, hb, hr⟩
  have HB := Lib.hid hb
  have HR := Lib.hid hr
  have hg2 : w.heap.size ≤ g := by simp at hg; omega
  clear hb hr hg HCAL hmf
  go_wp2_with fail
  go_ret
  exact ⟨g, cap, rfl, hg2, ((Below.refl w.heap.size w).alloc (Nat.le_refl _) _).trans (HB.out.mono (by simp)), HR.out⟩
end Go.Proofs.Ytkkmgjjafbjnjaa
