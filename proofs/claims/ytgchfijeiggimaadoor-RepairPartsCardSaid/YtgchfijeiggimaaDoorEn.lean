/- Whether a word is right; a word's data. slices.Concat of two rows; code words. Concat and Encode: the answer is a row of its own. Rows of Booleans. -/
import Derived.Test.YtgchfijeiggimaaDoorOf
import Derived.Test.YtgchfijeiggimaaDoorPr
import Derived.Deep.QuietTactic
import Derived.BigQuiet
namespace Go.Proofs.YtgchfijeiggimaaDoor
open Go.RowKit
set_option linter.unusedVariables false
set_option linter.unusedSimpArgs false
end Go.Proofs.YtgchfijeiggimaaDoor
namespace Go.Proofs.YtgchfijeiggimaaDoor
open Go.RowKit
set_option linter.unusedVariables false
set_option linter.unusedSimpArgs false
def CaAt (n m : Nat) (w : World) (s i : Value) (wr : World) : Prop :=
  wr = w ∧ ((i = .int .i64 0 ∧ s = .int .i64 0) ∨ (i = .int .i64 1 ∧ s = .int .i64 n) ∨ (i = .int .i64 2 ∧ s = .int .i64 ((n : Int) + m)))
def CbAt (d p : List UInt8) (w : World) (v i : Value) (wr : World) : Prop :=
  Below w.heap.size w wr ∧ ((i = .int .i64 0 ∧ wr.ownsRow w.heap.size 5 1 v 0 (bytesV [])) ∨ (i = .int .i64 1 ∧ wr.ownsRow w.heap.size 5 1 v d.length (bytesV d)) ∨ (i = .int .i64 2 ∧ wr.ownsRow w.heap.size 5 1 v (d.length + p.length) (bytesV (d ++ p))))
set_option maxRecDepth 100000 in
set_option maxHeartbeats 2000000 in
theorem concat_any (d p : List UInt8) (o1 o2 : Option Addr) (c1 c2 A : Nat) (w : World) (h1 : RowIs w o1 (bytesV d) c1) (h2 : RowIs w o2 (bytesV p) c2) (hl1 : d.length ≤ 1000) (hl2 : p.length ≤ 1000) (h0 : 0 < d.length + p.length)
    (hA0 : w.cell? ⟨A, 0, none⟩ = some (.slice o1 d.length c1)) (hA1 : w.cell? ⟨A, 1, none⟩ = some (.slice o2 p.length c2)) (hAl : A < w.heap.size) :
    Calls Tryd.prog 23 #[.slice (some ⟨A, 0, none⟩) 2 2] w (Rows (d ++ p) w) := by
  have H1 := Lib.hid h1
  have H2 := Lib.hid h2
  have HA0 := Lib.hid hA0
  have HA1 := Lib.hid hA1
  obtain ⟨n, hn⟩ : ∃ n, d.length = n := ⟨_, rfl⟩
  obtain ⟨m, hm⟩ : ∃ m, p.length = m := ⟨_, rfl⟩
  have HN := Lib.hid hn
  have HM := Lib.hid hm
  have hc1 := h1.cap
  have hc2 := h2.cap
  unfold maxLen at hc1 hc2
  rw [hn] at hA0 hl1 h0
  rw [hm] at hA1 hl2 h0
  clear h1 h2 hn hm
  go_enter Tryd.func23, Tryd.ntmps23
  go_wp2_with fail
  go_loopw [3, 5, 11] (fun s _ i wr => CaAt n m w s i wr) (fun _ _ i _ => 2 - (intOf i).toNat)
  case atStart => exact ⟨rfl, .inl ⟨rfl, rfl⟩⟩
  case round =>
    obtain ⟨rfl, ⟨rfl, rfl⟩ | ⟨rfl, rfl⟩ | ⟨rfl, rfl⟩⟩ := hrel
    · have hd : decide ((n : Int) < 0) = false := decide_eq_false (by omega)
      go_wp2_with fail
      go_roundw
      case rel => exact ⟨rfl, .inr (.inl ⟨by go_num, by go_num⟩)⟩
      case measure => simp [intOf]
    · have hd : decide ((n : Int) + m < 0) = false := decide_eq_false (by omega)
      go_wp2_with fail
      go_roundw
      case rel => exact ⟨rfl, .inr (.inr ⟨by go_num, by go_num⟩)⟩
      case measure => simp [intOf]
    · obtain ⟨N, hN⟩ : ∃ N : Nat, n + m = N := ⟨_, rfl⟩
      rw [show (n : Int) + m = (N : Int) by omega]
      have HG := Lib.hid (grow_nil N wr (by omega) (by omega))
      have HNN := Lib.hid hN
      clear hN
      go_wp2_with fail
      refine HG.out.mono ?_; rintro e w2 ⟨g, cap, rfl, hown, hb⟩
      have HV := Lib.hid hown
      have HB := Lib.hid hb
      clear hown hb HG
      go_wp2_with fail
      go_loopw [6, 8, 27] (fun v _ i wr2 => CbAt d p wr v i wr2) (fun _ _ i _ => 2 - (intOf i).toNat)
      case atStart => exact ⟨HB.out, .inl ⟨rfl, HV.out⟩⟩
      case round =>
        rename World => W3
        obtain ⟨hb3, h3⟩ := hrel
        have hA0' : W3.cell? ⟨A, 0, none⟩ = _ := (hb3.cell (p := ⟨A, 0, none⟩) hAl).trans hA0
        have hA1' : W3.cell? ⟨A, 1, none⟩ = _ := (hb3.cell (p := ⟨A, 1, none⟩) hAl).trans hA1
        have HB3 := Lib.hid hb3
        clear hb3 hA0 hA1
        rcases h3 with ⟨rfl, hv⟩ | ⟨rfl, hv⟩ | ⟨rfl, hv⟩
        · have HV3 := Lib.hid hv
          clear hv
          go_wp2_with (at_builtin; refine append_row rfl (.tmp 31) (.tmp 32) rfl wr.heap.size _ 0 [] rfl HV3.out o1 n c1 d rfl HN.out.symm (H1.out.later HB3.out) (by omega) HB3.out.size ?_)
          intro v' w4 hv hg
          have HV4 : Hid (w4.ownsRow wr.heap.size 5 1 v' d.length (bytesV d)) := Lib.hid (by rw [HN.out]; simpa using hv)
          have HB4 := Lib.hid (own_below (n := 0) HB3.out HV3.out hg)
          clear hv hg
          go_wp2_with fail
          go_roundw
          case rel => exact ⟨HB4.out, .inr (.inl ⟨by go_num, HV4.out⟩)⟩
          case measure => simp [intOf]
        · have HV3 : Hid (W3.ownsRow wr.heap.size 5 1 _ n (bytesV d)) := Lib.hid (by rw [← HN.out]; exact hv)
          clear hv
          go_wp2_with (at_builtin; refine append_row rfl (.tmp 31) (.tmp 32) rfl wr.heap.size _ n d rfl HV3.out o2 m c2 p rfl HM.out.symm (H2.out.later HB3.out) (by omega) HB3.out.size ?_)
          intro v' w4 hv hg
          have HV4 : Hid (w4.ownsRow wr.heap.size 5 1 v' (d.length + p.length) (bytesV (d ++ p))) := Lib.hid (by rw [HN.out, HM.out]; exact hv)
          have HB4 := Lib.hid (own_below (n := 0) HB3.out HV3.out hg)
          clear hv hg
          go_wp2_with fail
          go_roundw
          case rel => exact ⟨HB4.out, .inr (.inr ⟨by go_num, HV4.out⟩)⟩
          case measure => simp [intOf]
        · have HR := Lib.hid (owns_rv hv (by simp))
          clear hv
          go_wp2_with fail
          go_ret
          exact ⟨_, rfl, HR.out, HB3.out⟩
theorem encode_any (d : List UInt8) (o : Option Addr) (c : Nat) (w : World) (hP : RowIs w o (bytesV d) c) (hl1 : 1 ≤ d.length) (hl2 : d.length ≤ 223) :
    Calls Tryd.prog 8 #[.slice o d.length c] w fun e w' => ∃ r x, r.length = 32 ∧ IsCode (d ++ r) ∧ e = .returned (.tuple #[x, .nilIface]) ∧ RowV (d ++ r) x w' ∧ Below w.heap.size w w' := by
  have HP := Lib.hid hP
  have HPA := Lib.hid (cpar_any d o c w hP hl1 hl2)
  have h1 := hP.le
  have h2 := hP.cap
  simp only [bytesV_length] at h1
  unfold maxLen at h2
  clear hP
  go_enter Tryd.func8, Tryd.ntmps8
  go_wp2_with fail
  refine HPA.out.mono ?_; rintro e w1 ⟨r, x, hr, hc, rfl, hx, hb⟩
  obtain ⟨o2, c2, rfl, hx⟩ := hx
  have hHP := (HP.out.later hb)
  obtain ⟨w2, hw2⟩ : ∃ w2, w1.alloc (.cells #[.slice o d.length c, .slice o2 r.length c2] 22) = w2 := ⟨_, rfl⟩
  have hb2 : Below w1.heap.size w1 w2 := by rw [← hw2]; exact (Below.refl _ _).alloc (Nat.le_refl _) _
  have hh : w2.heap[w1.heap.size]? = some (.cells #[.slice o d.length c, .slice o2 r.length c2] 22 (0, 0)) := by rw [← hw2]; exact World.alloc_heap_new _ _
  have hcl := concat_any d r o o2 c c2 w1.heap.size w2 (hHP.later hb2) (hx.later hb2) (by omega) (by omega) (by omega) (by rw [cell_of_row _ _ _ _ _ _ hh]; rfl) (by rw [cell_of_row _ _ _ _ _ _ hh]; rfl) (Array.getElem?_eq_some_iff.1 hh).1
  rw [← hw2] at hcl
  have HCL := Lib.hid hcl
  have HB2 : Hid (Below w.heap.size w w2) := Lib.hid (Kit.step hb hb2)
  have HW2 := Lib.hid hw2
  have HC := Lib.hid hc
  have HR := Lib.hid hr
  have hc2 := hx.cap
  unfold maxLen at hc2
  have hrl : r.length ≤ 32 := by omega
  clear hcl hb2 hh hHP hx hb hw2 hc hr HPA
  go_wp2_with fail
  refine HCL.out.mono ?_; rintro e w3 ⟨y, rfl, hy, hb⟩
  rw [HW2.out] at hb
  have HY := Lib.hid hy
  have HB3 := Lib.hid (Kit.step HB2.out hb)
  clear hy hb HCL
  go_wp2_with fail
  go_ret2
  exact ⟨r, y, HR.out, HC.out, rfl, HY.out, HB3.out⟩
theorem encode_size (m c : Nat) (o : Option Addr) (w : World) (p : Addr) (hE : w.cell? ⟨0, 0, none⟩ = some (.iface 128 (.pointer (some p)))) (h : m < 1 ∨ 223 < m) (hm : m ≤ 9223372036854775807) :
    Calls Tryd.prog 8 #[.slice o m c] w fun e w' => e = .returned (.tuple #[.slice none 0 0, .iface 128 (.pointer (some p))]) ∧ Below w.heap.size w w' := by
  have HPA := Lib.hid (cpar_size m c o w p hE h hm)
  clear hE h
  go_enter Tryd.func8, Tryd.ntmps8
  go_wp2_with fail
  refine HPA.out.mono ?_; rintro e w1 ⟨rfl, hb⟩
  have HB := Lib.hid hb
  clear hb HPA
  go_wp2_with fail
  go_ret2
  exact ⟨rfl, HB.out⟩
end Go.Proofs.YtgchfijeiggimaaDoor
namespace Go.Proofs.YtgchfijeiggimaaDoor
open Go.RowKit
set_option linter.unusedVariables false
set_option linter.unusedSimpArgs false
set_option maxRecDepth 100000 in
set_option maxHeartbeats 2000000 in
theorem concat_own (d p : List UInt8) (o1 o2 : Option Addr) (c1 c2 A : Nat) (w : World) (h1 : RowIs w o1 (bytesV d) c1) (h2 : RowIs w o2 (bytesV p) c2) (hl1 : d.length ≤ 1000) (hl2 : p.length ≤ 1000) (h0 : 0 < d.length + p.length)
    (hA0 : w.cell? ⟨A, 0, none⟩ = some (.slice o1 d.length c1)) (hA1 : w.cell? ⟨A, 1, none⟩ = some (.slice o2 p.length c2)) (hAl : A < w.heap.size) :
    Calls Tryd.prog 23 #[.slice (some ⟨A, 0, none⟩) 2 2] w (Own (d ++ p) w) := by
  have h0' := h0
  have H1 := Lib.hid h1
  have H2 := Lib.hid h2
  have HA0 := Lib.hid hA0
  have HA1 := Lib.hid hA1
  obtain ⟨n, hn⟩ : ∃ n, d.length = n := ⟨_, rfl⟩
  obtain ⟨m, hm⟩ : ∃ m, p.length = m := ⟨_, rfl⟩
  have HN := Lib.hid hn
  have HM := Lib.hid hm
  have hc1 := h1.cap
  have hc2 := h2.cap
  unfold maxLen at hc1 hc2
  rw [hn] at hA0 hl1 h0
  rw [hm] at hA1 hl2 h0
  clear h1 h2 hn hm
  go_enter Tryd.func23, Tryd.ntmps23
  go_wp2_with fail
  go_loopw [3, 5, 11] (fun s _ i wr => CaAt n m w s i wr) (fun _ _ i _ => 2 - (intOf i).toNat)
  case atStart => exact ⟨rfl, .inl ⟨rfl, rfl⟩⟩
  case round =>
    obtain ⟨rfl, ⟨rfl, rfl⟩ | ⟨rfl, rfl⟩ | ⟨rfl, rfl⟩⟩ := hrel
    · have hd : decide ((n : Int) < 0) = false := decide_eq_false (by omega)
      go_wp2_with fail
      go_roundw
      case rel => exact ⟨rfl, .inr (.inl ⟨by go_num, by go_num⟩)⟩
      case measure => simp [intOf]
    · have hd : decide ((n : Int) + m < 0) = false := decide_eq_false (by omega)
      go_wp2_with fail
      go_roundw
      case rel => exact ⟨rfl, .inr (.inr ⟨by go_num, by go_num⟩)⟩
      case measure => simp [intOf]
    · obtain ⟨N, hN⟩ : ∃ N : Nat, n + m = N := ⟨_, rfl⟩
      rw [show (n : Int) + m = (N : Int) by omega]
      have HG := Lib.hid (grow_nil N wr (by omega) (by omega))
      have HNN := Lib.hid hN
      clear hN
      go_wp2_with fail
      refine HG.out.mono ?_; rintro e w2 ⟨g, cap, rfl, hown, hb⟩
      have HV := Lib.hid hown
      have HB := Lib.hid hb
      clear hown hb HG
      go_wp2_with fail
      go_loopw [6, 8, 27] (fun v _ i wr2 => CbAt d p wr v i wr2) (fun _ _ i _ => 2 - (intOf i).toNat)
      case atStart => exact ⟨HB.out, .inl ⟨rfl, HV.out⟩⟩
      case round =>
        rename World => W3
        obtain ⟨hb3, h3⟩ := hrel
        have hA0' : W3.cell? ⟨A, 0, none⟩ = _ := (hb3.cell (p := ⟨A, 0, none⟩) hAl).trans hA0
        have hA1' : W3.cell? ⟨A, 1, none⟩ = _ := (hb3.cell (p := ⟨A, 1, none⟩) hAl).trans hA1
        have HB3 := Lib.hid hb3
        clear hb3 hA0 hA1
        rcases h3 with ⟨rfl, hv⟩ | ⟨rfl, hv⟩ | ⟨rfl, hv⟩
        · have HV3 := Lib.hid hv
          clear hv
          go_wp2_with (at_builtin; refine append_row rfl (.tmp 31) (.tmp 32) rfl wr.heap.size _ 0 [] rfl HV3.out o1 n c1 d rfl HN.out.symm (H1.out.later HB3.out) (by omega) HB3.out.size ?_)
          intro v' w4 hv hg
          have HV4 : Hid (w4.ownsRow wr.heap.size 5 1 v' d.length (bytesV d)) := Lib.hid (by rw [HN.out]; simpa using hv)
          have HB4 := Lib.hid (own_below (n := 0) HB3.out HV3.out hg)
          clear hv hg
          go_wp2_with fail
          go_roundw
          case rel => exact ⟨HB4.out, .inr (.inl ⟨by go_num, HV4.out⟩)⟩
          case measure => simp [intOf]
        · have HV3 : Hid (W3.ownsRow wr.heap.size 5 1 _ n (bytesV d)) := Lib.hid (by rw [← HN.out]; exact hv)
          clear hv
          go_wp2_with (at_builtin; refine append_row rfl (.tmp 31) (.tmp 32) rfl wr.heap.size _ n d rfl HV3.out o2 m c2 p rfl HM.out.symm (H2.out.later HB3.out) (by omega) HB3.out.size ?_)
          intro v' w4 hv hg
          have HV4 : Hid (w4.ownsRow wr.heap.size 5 1 v' (d.length + p.length) (bytesV (d ++ p))) := Lib.hid (by rw [HN.out, HM.out]; exact hv)
          have HB4 := Lib.hid (own_below (n := 0) HB3.out HV3.out hg)
          clear hv hg
          go_wp2_with fail
          go_roundw
          case rel => exact ⟨HB4.out, .inr (.inr ⟨by go_num, HV4.out⟩)⟩
          case measure => simp [intOf]
        · obtain ⟨g2, cap2, rfl, hg2, hbu⟩ := own_buf hv h0' (by simp)
          have HR := Lib.hid hbu
          clear hv hbu
          go_wp2_with fail
          go_ret
          exact ⟨g2, cap2, rfl, hg2, HR.out, HB3.out⟩
theorem encode_own (d : List UInt8) (o : Option Addr) (c : Nat) (w : World) (hP : RowIs w o (bytesV d) c) (hl1 : 1 ≤ d.length) (hl2 : d.length ≤ 223) :
    Calls Tryd.prog 8 #[.slice o d.length c] w fun e w' => ∃ r g cap, r.length = 32 ∧ IsCode (d ++ r) ∧ e = .returned (.tuple #[.slice (some ⟨g, 0, none⟩) (d ++ r).length cap, .nilIface]) ∧ w.heap.size ≤ g ∧ Buf w' g cap (d ++ r) ∧ Below w.heap.size w w' := by
  have HP := Lib.hid hP
  have HPA := Lib.hid (cpar_any d o c w hP hl1 hl2)
  have h1 := hP.le
  have h2 := hP.cap
  simp only [bytesV_length] at h1
  unfold maxLen at h2
  clear hP
  go_enter Tryd.func8, Tryd.ntmps8
  go_wp2_with fail
  refine HPA.out.mono ?_; rintro e w1 ⟨r, x, hr, hc, rfl, hx, hb⟩
  obtain ⟨o2, c2, rfl, hx⟩ := hx
  have hHP := (HP.out.later hb)
  obtain ⟨w2, hw2⟩ : ∃ w2, w1.alloc (.cells #[.slice o d.length c, .slice o2 r.length c2] 22) = w2 := ⟨_, rfl⟩
  have hb2 : Below w1.heap.size w1 w2 := by rw [← hw2]; exact (Below.refl _ _).alloc (Nat.le_refl _) _
  have hh : w2.heap[w1.heap.size]? = some (.cells #[.slice o d.length c, .slice o2 r.length c2] 22 (0, 0)) := by rw [← hw2]; exact World.alloc_heap_new _ _
  have hcl := concat_own d r o o2 c c2 w1.heap.size w2 (hHP.later hb2) (hx.later hb2) (by omega) (by omega) (by omega) (by rw [cell_of_row _ _ _ _ _ _ hh]; rfl) (by rw [cell_of_row _ _ _ _ _ _ hh]; rfl) (Array.getElem?_eq_some_iff.1 hh).1
  rw [← hw2] at hcl
  have HCL := Lib.hid hcl
  have HB2 : Hid (Below w.heap.size w w2) := Lib.hid (Kit.step hb hb2)
  have HW2 := Lib.hid hw2
  have HC := Lib.hid hc
  have HR := Lib.hid hr
  have hc2 := hx.cap
  unfold maxLen at hc2
  have hrl : r.length ≤ 32 := by omega
  clear hcl hb2 hh hHP hx hb hw2 hc hr HPA
  go_wp2_with fail
  refine HCL.out.mono ?_; rintro e w3 ⟨g3, cap3, rfl, hg3, hy, hb⟩
  rw [HW2.out] at hb
  have HY := Lib.hid hy
  rw [HW2.out] at hg3
  have hgw : w.heap.size ≤ g3 := Nat.le_trans HB2.out.size hg3
  have HB3 := Lib.hid (Kit.step HB2.out hb)
  obtain ⟨n3, hn3⟩ : ∃ n3, (d ++ r).length = n3 := ⟨_, rfl⟩
  rw [hn3]
  have HN3 := Lib.hid hn3
  clear hy hb HCL hn3 hg3
  go_wp2_with fail
  go_ret2
  exact ⟨r, g3, cap3, HR.out, HC.out, by rw [HN3.out]; rfl, hgw, HY.out, HB3.out⟩
/-- a block of Booleans -/
def BRow (W : World) (g n : Nat) (f : Nat → Bool) : Prop := W.heap[g]? = some (.cells ((List.range n).map fun i => Value.bool (f i)).toArray 4 (0, 0))
theorem BRow.cell {W : World} {g n : Nat} {f : Nat → Bool} (h : BRow W g n f) (i : Nat) (hi : i < n) : W.cell? ⟨g, i, none⟩ = some (.bool (f i)) := by
  rw [cell_of_row _ _ i _ _ _ h]
  simp [hi]
theorem BRow.frozen {W : World} {g n : Nat} {f : Nat → Bool} (h : BRow W g n f) (i : Nat) : W.frozen? ⟨g, i, none⟩ = false := by
  unfold World.frozen?; rw [show W.heap[g]? = _ from h]; rfl
theorem BRow.lt {W : World} {g n : Nat} {f : Nat → Bool} (h : BRow W g n f) : g < W.heap.size := (Array.getElem?_eq_some_iff.1 h).1
theorem BRow.later {W W' : World} {g n : Nat} {f : Nat → Bool} (h : BRow W g n f) (hb : Below W.heap.size W W') : BRow W' g n f := by
  unfold BRow at *
  rw [hb.block g (Array.getElem?_eq_some_iff.1 h).1]; exact h
theorem BRow.only {W W' : World} {g n k : Nat} {f : Nat → Bool} (h : BRow W g n f) (hb : Only k W W') (hne : g ≠ k) : BRow W' g n f := by
  unfold BRow at *
  rw [World.grownBy.block hb g (Array.getElem?_eq_some_iff.1 h).1 (fun e => hne (by cases e; rfl))]; exact h
theorem BRow.store {W : World} {g n : Nat} {f : Nat → Bool} (h : BRow W g n f) (i : Nat) (b : Bool) : BRow (W.setCell ⟨g, i, none⟩ (.bool b)) g n (fun j => if j = i then b else f j) ∧ Only g W (W.setCell ⟨g, i, none⟩ (.bool b)) := by
  have e1 := setCell_eq_setRow W g i _ _ _ (.bool b) h
  have h1 := setRow_heap W g _ (((List.range n).map fun i => Value.bool (f i)).toArray.setIfInBounds i (.bool b)) _ _ h
  rw [← e1] at h1
  refine ⟨?_, ?_⟩
  · unfold BRow
    rw [h1]
    congr 2
    apply Array.ext_getElem?
    intro k
    rw [Array.getElem?_setIfInBounds]
    by_cases hk : i = k
    · subst hk
      by_cases hn : i < n
      · simp [hn]
      · simp [hn]
    · rw [if_neg hk]
      by_cases hn : k < n
      · simp [hn]
        exact fun h => absurd h.symm hk
      · simp [hn]
  · rw [e1]
    exact ⟨rfl, rfl, rfl, by simp [World.setRow], fun k hk hn => setRow_other W g k _ (fun e => hn (by rw [e]))⟩
theorem brow_new (w : World) (n : Nat) : BRow (w.alloc (.cells (Array.replicate n (.bool false)) 4)) w.heap.size n (fun _ => false) := by
  have h := World.alloc_heap_new w (.cells (Array.replicate n (.bool false)) 4)
  unfold BRow
  rw [h]
  congr 2
  apply Array.ext
  · simp
  · intro k h1 h2
    simp
end Go.Proofs.YtgchfijeiggimaaDoor
