/- The iterator over the coefficients that aren't 0, and what goes by it: Degree, cut. -/
import Derived.Test.YtkkmgjjafbjnjaaRf
import Derived.Test.YtkkmgjjafbjnjaaPo
import Derived.Test.YtkkmgjjafbjnjaaSl
import Derived.Test.YtkkmgjjafbjnjaaFw
namespace Go.Proofs.Ytkkmgjjafbjnjaa
open Go.RowKit Go.Shelf
set_option linter.unusedVariables false
theorem makes {P : Program} (fn : Fn) (first cap : Array Value) (w : World) : (Instr.makeFunc fn first cap).run P w = .ok (.func fn first cap) w := by kernel_rfl

theorem RowIs.nc {B : Nat} {X X' : World} {o : Option Addr} {vs : List Value} {c : Nat} (h : RowIs X o vs c) (k : Rf.NC B X X') : RowIs X' o vs c :=
  ⟨h.le, h.cap, h.nil, fun h0 => by
    obtain ⟨b, off, e, hlt, hc⟩ := h.cells h0
    exact ⟨b, off, e, Nat.lt_of_lt_of_le hlt k.size, fun i v hv => k.cell (hc i v hv)⟩⟩
theorem RowIs.uniq {X : World} {o : Option Addr} {a b : List UInt8} {c d : Nat} (h : RowIs X o (bytesV a) c) (k : RowIs X o (bytesV b) d) (hl : a.length = b.length) : a = b := by
  by_cases h0 : 0 < a.length
  · obtain ⟨p, off, rfl, _, hc⟩ := h.cells (by simpa using h0)
    obtain ⟨p', off', e, _, kc⟩ := k.cells (by simp; omega)
    injection e with e
    injection e with e1 e2
    subst e1; subst e2
    refine list_ext hl fun i hi => ?_
    have h1 := hc i _ (bytesV_get a i hi)
    have h2 := kc i _ (bytesV_get b i (by omega))
    rw [h1] at h2
    have h3 : (((a.getD i 0).toNat : Int)) = ((b.getD i 0).toNat : Int) := by
      injection h2 with h2
      injection h2
    exact Gf.u8_ext (Int.ofNat.inj h3)
  · rw [List.eq_nil_of_length_eq_zero (show a.length = 0 by omega), List.eq_nil_of_length_eq_zero (show b.length = 0 by omega)]
theorem terms_any (o : Option Addr) (n c : Nat) (w : World) :
    Calls Try.prog 25 #[.slice o n c] w fun e w' => e = .returned (.func (.func 28) #[] #[.pointer (some ⟨w.heap.size, 0, none⟩)]) ∧ w' = w.alloc (.cells #[.slice o n c] 25) := by
  have hmf := @makes Try.prog
  go_enter Try.func25, Try.ntmps25
  go_wp2
  go_ret
  exact ⟨rfl, rfl⟩
attribute [local go_sem] Oper.semAt_some
theorem walk_any (l : Nat) (I : Nat → World → Prop) (B Bx : World → Prop) (o : Option Addr) (n c Q : Nat) (w : World)
    (hI : ∀ i X, I i X → X.cell? ⟨Q, 0, none⟩ = some (.slice o n c) ∧ ∃ z : List UInt8, z.length = n ∧ RowIs X o (bytesV z) c)
    (hskip : ∀ i X (z : List UInt8), I (i + 1) X → i < n → RowIs X o (bytesV z) c → z.length = n → co z i = 0 → I i X)
    (hturn : ∀ i (b : UInt8) X, I (i + 1) X → B X → i < n → (∃ z : List UInt8, z.length = n ∧ RowIs X o (bytesV z) c ∧ co z i = b) → b ≠ 0 →
      YieldAt Fence.wide 0 Try.prog l #[.int .i64 i, .int .u8 (b.toNat : Int)] X fun e X' => (e = .returned (.bool true) ∧ I i X' ∧ B X') ∨ (e = .returned (.bool false) ∧ Bx X'))
    (h0 : I n w) (hB : B w) :
    Calls Try.prog 28 #[.func (.yield l) #[] #[], .pointer (some ⟨Q, 0, none⟩)] w fun e X => (∃ v, e = .returned v) ∧ ((I 0 X ∧ B X) ∨ Bx X) := by
  refine (callsIn_wide (n := 0)).1 (callsIn_of_wp Try.func28 rfl trivial ?_ rfl)
  simp only [Try.ntmps28, List.size_toArray, List.length_cons, List.length_nil, Nat.reduceAdd, Nat.reduceSub, Array.replicate_succ, Array.replicate_zero, List.push_toArray, List.append_toArray, List.nil_append, List.cons_append]
  obtain ⟨hq, z0, hz0, hr0⟩ := hI _ _ h0
  have hn : n ≤ 9223372036854775807 := by
    have h1 := hr0.le
    have h2 := hr0.cap
    simp only [bytesV_length] at h1
    unfold maxLen at h2
    omega
  clear hz0 hr0
  gi_wp2
  gi_loopw [3] (fun p wr => ∃ k : Nat, k ≤ n ∧ p = .int .i64 ((k : Int) - 1) ∧ I k wr ∧ B wr) (fun p wr => (intOf p + 1).toNat)
  case atStart => exact ⟨n, Nat.le_refl _, by go_num, h0, hB⟩
  case round =>
    obtain ⟨k, hk, rfl, hi, hb⟩ := hrel
    obtain ⟨hq2, z, hz, hr⟩ := hI _ _ hi
    cases k with
    | zero =>
      gi_wp2
      go_end0
      exact ⟨⟨_, rfl⟩, .inl ⟨hi, hb⟩⟩
    | succ k =>
      have hm := hr.cap
      have hle := hr.le
      simp only [bytesV_length] at hle
      unfold maxLen at hm
      obtain ⟨b1, off1, rfl, hb1, hcell⟩ := hr.cells (by simp; omega)
      have hc1 : wr.cell? ⟨b1, off1 + k, none⟩ = some (.int .u8 ((co z k).toNat : Int)) := hcell k _ (bytesV_get z k (by omega))
      have hx := UInt8.toNat_lt (co z k)
      by_cases h0 : co z k = 0
      · have hnext := hskip k wr z hi (by omega) hr hz h0
        rw [h0] at hc1
        gi_wp2
        refine ⟨fun _ h => (by cases h), ?_⟩
        gi_wp2
        go_roundw
        case rel => exact ⟨k, by omega, by go_num, hnext, hb⟩
        case measure => simp [intOf]
      · have h00 : ¬ (co z k).toNat = 0 := fun e => h0 (Gf.u8_ext e)
        have t1 : (((co z k).toNat : Int) == 0) = false := by simpa using h00
        have t2 : (((co z k).toNat : Int) != 0) = true := by simp [bne, t1]
        obtain ⟨fn, tmps, assign, body, hy, hR⟩ := hturn k (co z k) wr hi hb (by omega) ⟨z, hz, hr, rfl⟩ h0
        gi_wp2
        refine ⟨rfl, hR.mono ?_⟩
        rintro e W3 (⟨rfl, hi3, hb3⟩ | ⟨rfl, hx3⟩)
        · gi_wp2
          go_roundw
          case rel => exact ⟨k, by omega, by go_num, hi3, hb3⟩
          case measure => simp [intOf]
        · gi_wp2
          refine bodyPost_ret (results_none rfl _ _ _) rfl ?_
          exact ⟨⟨_, rfl⟩, .inr hx3⟩

theorem deg_any (o : Option Addr) (z : List UInt8) (c : Nat) (w : World) (h : RowIs w o (bytesV z) c) :
    Calls Try.prog 27 #[.slice o z.length c] w fun e w' => e = .returned (.int .i64 ((tl z z.length : Int) - 1)) ∧ Below w.heap.size w w' := by
  refine Rf.calls_marks Try.func27 rfl ?_
  simp only [Try.ntmps27, List.size_toArray, List.length_cons, List.length_nil, Nat.reduceAdd, Nat.reduceSub, Array.replicate_succ, Array.replicate_zero, List.push_toArray, List.append_toArray, List.nil_append, List.cons_append]
  go_wp2_with fail
  refine (terms_any o z.length c _).mono ?_; rintro e w1 ⟨rfl, hw1⟩
  go_wp2_with fail
  have hb0 : Below w.heap.size w w1 := by rw [hw1]; exact ((Below.refl _ w).alloc (Nat.le_refl _) _).alloc (by simp) _
  have hc0 : w1.cell? ⟨w.heap.size, 0, none⟩ = some (.int .i64 0) := by rw [hw1]; simp
  have hf0 : w1.frozen? ⟨w.heap.size, 0, none⟩ = false := by rw [hw1]; simp
  have hq0 : w1.cell? ⟨w.heap.size + 1, 0, none⟩ = some (.slice o z.length c) := by rw [hw1]; simp
  have hs0 : w1.heap.size = w.heap.size + 2 := by rw [hw1]; simp
  rw [← hw1]
  refine Rf.range_told (α := Nat × UInt8) (σ := Nat) rfl (enters_of Try.func28 (by kernel_rfl) rfl) (fun x => #[.int .i64 x.1, .int .u8 (x.2.toNat : Int)]) (fun _ => rfl)
    (fun i X => tl z z.length ≤ i ∧ i ≤ z.length ∧ w1.heap.size ≤ X.heap.size ∧ Rf.NC w1.heap.size w1 X)
    (fun c X => c = .ret ∧ X.cell? ⟨w.heap.size, 0, none⟩ = some (.int .i64 ((tl z z.length : Int) - 1)) ∧ tl z z.length ≠ 0 ∧ Below w.heap.size w X)
    (fun s x s' X => tl z z.length = s ∧ s = x.1 + 1)
    z.length (fun s => tl z z.length = 0) ?hI ?hIx ?hV ?h0 ?hseq
    ?round ?done ?stop
  case hI => exact fun s X X' h k => ⟨h.1, h.2.1, Nat.le_trans h.2.2.1 k.size, h.2.2.2.trans k⟩
  case hIx => exact fun c X X' h k => ⟨h.1, k.cell h.2.1, h.2.2.1, h.2.2.2.trans (k.below (by omega) h.2.2.2.size)⟩
  case hV => exact fun s x s' X X' h k => h
  case h0 => exact ⟨tl_le _ _, Nat.le_refl _, Nat.le_refl _, Rf.NC.refl _ _⟩
  case round =>
    rintro l s x s' X Z To ⟨h1, h2, h3, h4⟩ ⟨h5, h6⟩ HN HR HE
    have hc := h4.cell hc0
    have hf := (h4.frozen hc0).trans hf0
    gi_wp2
    refine HR.out _ _ (KeepsOthers.setCell _ _ _) ⟨by trivial, ?_, by omega, ?_⟩
    · rw [World.cell?_setCell_same' _ _ _ (by rw [hc]; rfl), h5, h6]
      exact congrArg some (by go_num)
    · exact (hb0.trans (h4.below (by omega) (by omega) : Below w.heap.size w1 X)).setCell (p := ⟨w.heap.size, 0, none⟩) (Nat.le_refl _) _
  case done =>
    rintro D s X hD hE ⟨h1, h2, h3, h4⟩ hK
    have hc := h4.cell hc0
    have hf := (h4.frozen hc0).trans hf0
    go_wp2
    have hK' := (KeepsOthers.setCell X ⟨w.heap.size, 0, none⟩ (.int .i64 (-1))).same D _ hK rfl
    refine Rf.leaves (v := .int .i64 (-1)) hK' ?_ ?_
    · have hc5 := cell_kept (World.cell?_setCell_same' X ⟨w.heap.size, 0, none⟩ (.int .i64 (-1)) (by rw [hc]; rfl)) (grownBy_putObj' _ D (.deferred none)) (fun r e => by cases e; exact ⟨_, hK', rfl⟩)
      simp [results, Try.f27, go_sem, hc5]
    · have hb1 : Below w.heap.size w X := hb0.trans (h4.below (by omega) (by omega))
      refine ⟨by rw [hE]; rfl, (hb1.setCell (p := ⟨w.heap.size, 0, none⟩) (Nat.le_refl _) _).trans (belowK_b (w := w) (Nat.le_refl _) _ D _ _ (by omega) hK' rfl rfl)⟩
  case stop =>
    rintro D c X hD ⟨rfl, hc, h0, hb⟩ hK
    go_wp2
    refine Rf.leaves (v := .int .i64 ((tl z z.length : Int) - 1)) hK ?_ ?_
    · have hc5 := cell_kept hc (grownBy_putObj' X D (.deferred none)) (fun r e => by cases e; exact ⟨_, hK, rfl⟩)
      simp [results, Try.f27, go_sem, hc5]
    · exact ⟨rfl, hb.trans (belowK_b (w := w) (Nat.le_refl _) X D _ _ (by omega) hK rfl rfl)⟩
  case hseq =>
    have hr1 := h.later hb0
    intro l B Bx X hnc hi hB hk ht
    refine (walk_any l (fun i X => tl z z.length ≤ i ∧ i ≤ z.length ∧ w1.heap.size ≤ X.heap.size ∧ Rf.NC w1.heap.size w1 X) B Bx o z.length c (w.heap.size + 1) X ?_ ?_ ?_ hi hB).mono ?_
    · exact fun i X h => ⟨h.2.2.2.cell hq0, z, rfl, hr1.nc h.2.2.2⟩
    · rintro i X z' ⟨h1, h2, h3, h4⟩ hlt hr hl h0
      obtain rfl := RowIs.uniq (hr1.nc h4) hr hl.symm
      refine ⟨?_, by omega, h3, h4⟩
      have := tl_top z z.length
      by_cases e : tl z z.length = i + 1
      · rw [e] at this
        exact absurd h0 (this (by omega))
      · omega
    · rintro i b X hI hB hlt ⟨z', hl, hr, rfl⟩ hb
      obtain ⟨h1, h2, h3, h4⟩ := hI
      obtain rfl := RowIs.uniq (hr1.nc h4) hr hl.symm
      have e : tl z z.length = i + 1 := by
        by_cases e : tl z z.length ≤ i
        · exact absurd (tl_zero z z.length i e hlt) hb
        · omega
      exact ht (i + 1) (i, co z i) i X ⟨h1, h2, h3, h4⟩ hB ⟨e, rfl⟩
    · rintro e X' ⟨hv, (⟨h, hB⟩ | hx)⟩
      · exact ⟨hv, .inl ⟨0, by omega, h, hB⟩⟩
      · exact ⟨hv, .inr hx⟩
theorem RowIs.take {W : World} {o : Option Addr} {z : List UInt8} {c : Nat} (h : RowIs W o (bytesV z) c) (n : Nat) : RowIs W o (bytesV (z.take n)) c :=
  ⟨by have := h.le; simp at *; omega, h.cap, h.nil, fun h0 => by
    obtain ⟨b, off, e, hlt, hc⟩ := h.cells (by simp at *; omega)
    refine ⟨b, off, e, hlt, fun i v hv => hc i v ?_⟩
    have hi := (List.getElem?_eq_some_iff.1 hv).1
    simp only [bytesV_length, List.length_take] at hi
    rw [← hv]
    unfold bytesV
    rw [List.map_take, List.getElem?_take_of_lt (by omega)]⟩
theorem cut_any (o : Option Addr) (z : List UInt8) (c : Nat) (w : World) (h : RowIs w o (bytesV z) c) :
    Calls Try.prog 24 #[.slice o z.length c] w fun e w' => e = .returned (.slice o (tr z).length c) ∧ Below w.heap.size w w' ∧ RowIs w' o (bytesV (tr z)) c := by
  have hm := h.cap
  have hle := h.le
  simp only [bytesV_length] at hle
  unfold maxLen at hm
  have ht := tl_le z z.length
  have HL := Lib.hid (tr_length z)
  have HR := Lib.hid h
  clear h
  have hd := deg_any o z c w HR.out
  generalize tl z z.length = m at *
  have HD := Lib.hid hd
  clear hd
  go_enter Try.func24, Try.ntmps24
  go_wp2_with fail
  refine HD.out.mono ?_; rintro e w1 ⟨rfl, hb⟩
  have HB := Lib.hid hb
  clear hb
  go_wp2_with fail
  go_ret
  exact ⟨by rw [HL.out]; rfl, HB.out, (HR.out.later HB.out).take _⟩
end Go.Proofs.Ytkkmgjjafbjnjaa
