/- The code's register: one number more. The code's register: what is told, how it begins, Register. The code's Register. -/
import Derived.Test.YtgchfijeiggimaaDoorMe
import Derived.BigRegion
import Derived.Laws.EntriesVeiled
namespace Go.Proofs.YtgchfijeiggimaaDoor
open Go.RowKit
set_option linter.unusedVariables false
set_option linter.unusedSimpArgs false
/-- the variables that feed writes -/
def FM (b k : Nat) : Prop := k = b + 2 ∨ k = b + 3 ∨ k = b + 5 ∨ k = b + 6 ∨ k = b + 7
/-- the variables of a register -/
structure RgB (b T : Nat) (Ct : Array Value) (vn vl vo vw va : Value) (w : World) : Prop where
  tb : T < b
  tab : TabAt w T Ct
  qt : Boxed w b 80 (.pointer (some ⟨T, 0, none⟩))
  qn : Boxed w (b + 2) 22 vn
  ql : Boxed w (b + 3) 3 vl
  qo : Boxed w (b + 5) 22 vo
  qw : Boxed w (b + 6) 5 vw
  qa : Boxed w (b + 7) 3 va
  qf : Boxed w (b + 8) 125 (.func (.func 83) #[] #[.pointer (some ⟨b + 2, 0, none⟩), .pointer (some ⟨b, 0, none⟩)])
  qm : Boxed w (b + 9) 126 (.func (.func 84) #[] #[.pointer (some ⟨b + 2, 0, none⟩), .pointer (some ⟨b + 7, 0, none⟩), .pointer (some ⟨b + 5, 0, none⟩), .pointer (some ⟨b, 0, none⟩)])
section
variable {b T : Nat} {Ct : Array Value} {vn vl vo vw va : Value} {w w' : World}
theorem RgB.later (h : RgB b T Ct vn vl vo vw va w) (hb : Below w.heap.size w w') : RgB b T Ct vn vl vo vw va w' :=
  ⟨h.tb, h.tab.later hb, boxed_later h.qt hb, boxed_later h.qn hb, boxed_later h.ql hb, boxed_later h.qo hb, boxed_later h.qw hb, boxed_later h.qa hb, boxed_later h.qf hb, boxed_later h.qm hb⟩
theorem tab_other {k : Nat} {u : Value} (h : TabAt w T Ct) (hne : T ≠ k) : TabAt (w.setCell ⟨k, 0, none⟩ u) T Ct := Only.tab (grownBy_setCell' w k u) h hne
theorem RgB.now (h : RgB b T Ct vn vl vo vw va w) (u : Value) : RgB b T Ct u vl vo vw va (w.setCell ⟨b + 2, 0, none⟩ u) :=
  ⟨h.tb, tab_other h.tab (by have := h.tb; omega), h.qt.other (by omega) _, h.qn.set _, h.ql.other (by omega) _, h.qo.other (by omega) _, h.qw.other (by omega) _, h.qa.other (by omega) _, h.qf.other (by omega) _, h.qm.other (by omega) _⟩
theorem RgB.long (h : RgB b T Ct vn vl vo vw va w) (u : Value) : RgB b T Ct vn u vo vw va (w.setCell ⟨b + 3, 0, none⟩ u) :=
  ⟨h.tb, tab_other h.tab (by have := h.tb; omega), h.qt.other (by omega) _, h.qn.other (by omega) _, h.ql.set _, h.qo.other (by omega) _, h.qw.other (by omega) _, h.qa.other (by omega) _, h.qf.other (by omega) _, h.qm.other (by omega) _⟩
theorem RgB.old (h : RgB b T Ct vn vl vo vw va w) (u : Value) : RgB b T Ct vn vl u vw va (w.setCell ⟨b + 5, 0, none⟩ u) :=
  ⟨h.tb, tab_other h.tab (by have := h.tb; omega), h.qt.other (by omega) _, h.qn.other (by omega) _, h.ql.other (by omega) _, h.qo.set _, h.qw.other (by omega) _, h.qa.other (by omega) _, h.qf.other (by omega) _, h.qm.other (by omega) _⟩
theorem RgB.wrong (h : RgB b T Ct vn vl vo vw va w) (u : Value) : RgB b T Ct vn vl vo u va (w.setCell ⟨b + 6, 0, none⟩ u) :=
  ⟨h.tb, tab_other h.tab (by have := h.tb; omega), h.qt.other (by omega) _, h.qn.other (by omega) _, h.ql.other (by omega) _, h.qo.other (by omega) _, h.qw.set _, h.qa.other (by omega) _, h.qf.other (by omega) _, h.qm.other (by omega) _⟩
theorem RgB.ago (h : RgB b T Ct vn vl vo vw va w) (u : Value) : RgB b T Ct vn vl vo vw u (w.setCell ⟨b + 7, 0, none⟩ u) :=
  ⟨h.tb, tab_other h.tab (by have := h.tb; omega), h.qt.other (by omega) _, h.qn.other (by omega) _, h.ql.other (by omega) _, h.qo.other (by omega) _, h.qw.other (by omega) _, h.qa.set _, h.qf.other (by omega) _, h.qm.other (by omega) _⟩
theorem fm_set {k B : Nat} {u : Value} (h : FM b k) : Bts (FM b) B w (w.setCell ⟨k, 0, none⟩ u) := Bts.of_only (grownBy_setCell' w k u) h
theorem fm_below {w' : World} (h : Below w.heap.size w w') : Bts (FM b) w.heap.size w w' :=
  ⟨h.os, h.tape, h.output, h.size, fun i o _ hi _ => (h.block i (Array.getElem?_eq_some_iff.1 hi).1).trans hi⟩
end
theorem bts_mono {M : Nat → Prop} {A B : Nat} {a b : World} (h : Bts M B a b) (hA : A ≤ B) : Bts M A a b := ⟨h.os, h.tape, h.output, h.size, fun k o hk ho hc => h.same k o hk ho (hc.imp id (fun h => by omega))⟩
/-- the register in memory -/
structure RgM (b T : Nat) (Ct : Array Value) (C : List UInt8) (L : Nat) (B : List UInt8) (bw : UInt8) (x : Nat) (oC : Option Addr) (cC : Nat) (oB : Option Addr) (cB : Nat) (w : World) : Prop where
  box : RgB b T Ct (.slice oC C.length cC) (.int .i64 (L : Int)) (.slice oB B.length cB) (.int .u8 (bw.toNat : Int)) (.int .i64 (x : Int)) w
  rC : RowIs w oC (bytesV C) cC
  rB : RowIs w oB (bytesV B) cB
  fC : 0 < (bytesV C).length → ∀ p, oC = some p → ¬ FM b p.block
  fB : 0 < (bytesV B).length → ∀ p, oB = some p → ¬ FM b p.block
def FeedTo (b T : Nat) (Ct : Array Value) (s : List UInt8) (n : Nat) (w : World) (e : Ending) (w' : World) : Prop :=
  (∃ v, e = .returned v) ∧ ∃ C L B bw x oC cC oB cB, RgM b T Ct C L B bw x oC cC oB cB w' ∧ Gf.Reg (co s) (n + 1) C L B bw x ∧ Bts (FM b) w.heap.size w w'
theorem off_dis (s C r : List UInt8) (L n : Nat) (hC : C.length ≤ L + 1) (hL : L ≤ n) (hr : r = s.take (n + 1)) (hl : r.length = n + 1) : offS C r C.length = Gf.dis (co s) (co C) L n := by
  rw [← Gf.dis_len (co s) C L n hC]
  unfold offS
  refine Gf.sm_congr fun j hj => ?_
  rw [hl, Nat.add_sub_cancel, hr, co_take, if_pos (by omega)]
set_option maxRecDepth 100000 in
set_option maxHeartbeats 4000000 in
theorem feed_any (b T : Nat) (Ct : Array Value) (s : List UInt8) (n : Nat) (C : List UInt8) (L : Nat) (B : List UInt8) (bw : UInt8) (x : Nat) (oC : Option Addr) (cC : Nat) (oB : Option Addr) (cB : Nat) (oR : Option Addr) (cR : Nat) (w : World)
    (hM : RgM b T Ct C L B bw x oC cC oB cB w) (hg : Gf.Reg (co s) n C L B bw x) (hn : n < s.length) (hl : s.length ≤ 900) (hR : RowIs w oR (bytesV (s.take (n + 1))) cR) (hRf : ∀ p, oR = some p → ¬ FM b p.block) :
    Calls Tryd.prog 85 #[.slice oR (s.take (n + 1)).length cR, .pointer (some ⟨b + 7, 0, none⟩), .pointer (some ⟨b + 8, 0, none⟩), .pointer (some ⟨b + 9, 0, none⟩), .pointer (some ⟨b, 0, none⟩), .pointer (some ⟨b + 6, 0, none⟩), .pointer (some ⟨b + 3, 0, none⟩), .pointer (some ⟨b + 2, 0, none⟩), .pointer (some ⟨b + 5, 0, none⟩)] w (FeedTo b T Ct s n w) := by
  obtain ⟨r, hr⟩ : ∃ r, r = s.take (n + 1) := ⟨_, rfl⟩
  have hrl : r.length = n + 1 := by rw [hr]; simp; omega
  rw [← hr] at hR ⊢
  have hLn := hg.le
  have hCl := hg.len
  have hxn := hg.xle
  have hbl := hg.blen
  have hcp := hg.pos
  have HOFF := Lib.hid (off_dis s C r L n hCl hLn hr hrl)
  obtain ⟨w1, hw1⟩ : ∃ w1, w.setCell ⟨b + 7, 0, none⟩ (.int .i64 ((x : Int) + 1)) = w1 := ⟨_, rfl⟩
  have hbt : Bts (FM b) w.heap.size w w1 := by rw [← hw1]; exact fm_set (by unfold FM; omega)
  have hbx : RgB b T Ct (.slice oC C.length cC) (.int .i64 (L : Int)) (.slice oB B.length cB) (.int .u8 (bw.toNat : Int)) (.int .i64 ((x + 1 : Nat) : Int)) w1 := by rw [← hw1]; exact hM.box.ago _
  have hM1 : RgM b T Ct C L B bw (x + 1) oC cC oB cB w1 := ⟨hbx, hbt.row hM.rC hM.fC, hbt.row hM.rB hM.fB, hM.fC, hM.fB⟩
  have hR1 : RowIs w1 oR (bytesV r) cR := hbt.row hR fun _ => hRf
  have hc7 := hM.box.qa.cell
  have hf7 := hM.box.qa.frozen
  have hc8 := hM1.box.qf.cell
  have hwx : IntKind.i64.wrap ((x : Int) + 1) = (x : Int) + 1 := by rw [IntKind.wrap_i64]; omega
  have hRc := hR1.le
  have hRc2 := hR1.cap
  simp only [bytesV_length] at hRc
  unfold maxLen at hRc2
  have HW1 := Lib.hid hw1
  have HBT := Lib.hid hbt
  have HM1 := Lib.hid hM1
  have HR1 := Lib.hid hR1
  have HG := Lib.hid hg
  have HRL := Lib.hid hrl
  have HOF := Lib.hid (off_any b T Ct C r oC oR cC cR w1 hM1.box.tab hM1.box.qt hM1.box.qn hM1.rC hR1 (by omega))
  rw [HOFF.out] at HOF
  obtain ⟨d, hd⟩ : ∃ d, Gf.dis (co s) (co C) L n = d := ⟨_, rfl⟩
  rw [hd] at HOF
  have HD := Lib.hid hd
  have hdl := UInt8.toNat_lt d
  clear hM hg hR hr hbt hbx hM1 hR1 hw1 hd HOFF hrl
  go_enter Tryd.func85, Tryd.ntmps85
  go_wp2_with (first | rw [HW1.out] | fail)
  refine HOF.out.mono ?_; rintro e w2 ⟨rfl, hdn⟩
  have HM2 : Hid (RgM b T Ct C L B bw (x + 1) oC cC oB cB w2) := Lib.hid ⟨HM1.out.box.later hdn.below, HM1.out.rC.later hdn.below, HM1.out.rB.later hdn.below, HM1.out.fC, HM1.out.fB⟩
  have HBT2 : Hid (Bts (FM b) w.heap.size w w2) := Lib.hid (HBT.out.trans (bts_mono (fm_below hdn.below) HBT.out.size))
  clear HOF hc7 hf7 hc8 hdn HW1 HM1 HBT HR1
  by_cases hd0 : d = 0
  · have hde : ((d.toNat : Int) == 0) = true := by rw [hd0]; rfl
    have HD0 := Lib.hid hd0
    clear hd0
    go_wp2_with fail
    refine bodyPost_ret (results_none rfl _ _ _) rfl ?_
    exact ⟨⟨_, rfl⟩, C, L, B, bw, x + 1, oC, cC, oB, cB, HM2.out, HG.out.same (HD.out.trans HD0.out), HBT2.out⟩
  · have hde : ((d.toNat : Int) == 0) = false := beq_false_of_ne (fun h => hd0 (UInt8.toNat_inj.1 (by simpa using h)))
    have HD0 := Lib.hid hd0
    have hbne := HG.out.bne
    have hbl8 := UInt8.toNat_lt bw
    have DC : Hid (∀ v : World, TabAt v T Ct → Calls Tryd.prog 66 #[.pointer (some ⟨T, 0, none⟩), .int .u8 (d.toNat : Int), .int .u8 (bw.toNat : Int)] v fun e w' => e = .returned (.int .u8 ((Gf.gd d bw).toNat : Int)) ∧ ∃ n, w' = v.drewN n) := Lib.hid fun v hv => by
      rw [Gf.gd_nat]
      exact tdiv_any _ _ hdl (fun h => hbne (UInt8.toNat_inj.1 h)) hbl8 T Ct v hv
    have MEC : Hid (∀ v : World, Below w2.heap.size w2 v → Calls Tryd.prog 84 #[.int .u8 ((Gf.gd d bw).toNat : Int), .pointer (some ⟨b + 2, 0, none⟩), .pointer (some ⟨b + 7, 0, none⟩), .pointer (some ⟨b + 5, 0, none⟩), .pointer (some ⟨b, 0, none⟩)] v fun e w' =>
        ∃ g cap, e = .returned (.slice (some ⟨g, 0, none⟩) (Gf.mendL C B (Gf.gd d bw) (x + 1)).length cap) ∧ v.heap.size ≤ g ∧ Below v.heap.size v w' ∧ RowIs w' (some ⟨g, 0, none⟩) (bytesV (Gf.mendL C B (Gf.gd d bw) (x + 1))) cap) := Lib.hid fun v hv => by
      have hx := HM2.out.box.later hv
      exact mended_any b T Ct C B (Gf.gd d bw) (x + 1) oC oB cC cB v hx.tab hx.qt hx.qn hx.qa hx.qo (HM2.out.rC.later hv) (HM2.out.rB.later hv) (by omega) (by omega) (by omega)
    have HST : Hid (¬ 2 * L < n + 1 → Gf.Reg (co s) (n + 1) (Gf.mendL C B (Gf.gd d bw) (x + 1)) L B bw (x + 1)) := Lib.hid fun h => by
      have := HG.out.still (by rw [HD.out]; exact HD0.out) h
      rwa [HD.out] at this
    have HLO : Hid (2 * L < n + 1 → Gf.Reg (co s) (n + 1) (Gf.mendL C B (Gf.gd d bw) (x + 1)) (n + 1 - L) C d 0) := Lib.hid fun h => by
      have := HG.out.longer (by rw [HD.out]; exact HD0.out) h
      rwa [HD.out] at this
    generalize Gf.mendL C B (Gf.gd d bw) (x + 1) = N at *
    generalize Gf.gd d bw = a at *
    have hal := UInt8.toNat_lt a
    have hc9 := HM2.out.box.qm.cell
    have hc0 := HM2.out.box.qt.cell
    have hc6 := HM2.out.box.qw.cell
    have HK : Hid (∀ v, Below w2.heap.size w2 v → v.cell? ⟨b + 9, 0, none⟩ = some (.func (.func 84) #[] #[.pointer (some ⟨b + 2, 0, none⟩), .pointer (some ⟨b + 7, 0, none⟩), .pointer (some ⟨b + 5, 0, none⟩), .pointer (some ⟨b, 0, none⟩)]) ∧ v.cell? ⟨b, 0, none⟩ = some (.pointer (some ⟨T, 0, none⟩)) ∧ v.cell? ⟨b + 6, 0, none⟩ = some (.int .u8 (bw.toNat : Int))) := Lib.hid fun v hv => ⟨(HM2.out.box.later hv).qm.cell, (HM2.out.box.later hv).qt.cell, (HM2.out.box.later hv).qw.cell⟩
    clear hd0 hbne
    go_wp2_with fail
    go_region_held3 (fun v => v.cell? ⟨b + 9, 0, none⟩ = some (.func (.func 84) #[] #[.pointer (some ⟨b + 2, 0, none⟩), .pointer (some ⟨b + 7, 0, none⟩), .pointer (some ⟨b + 5, 0, none⟩), .pointer (some ⟨b, 0, none⟩)]) ∧ v.cell? ⟨b, 0, none⟩ = some (.pointer (some ⟨T, 0, none⟩)) ∧ v.cell? ⟨b + 6, 0, none⟩ = some (.int .u8 (bw.toNat : Int))) (first | exact HK.out _ (Kit.dn' w2 0) | exact HK.out _ (Kit.dn' w2 1) | exact HK.out _ (Kit.dn' w2 _) | exact HK.out _ (Kit.step (Kit.dn' w2 _) (by assumption))) (first | (go_at_call 66; refine (DC.out _ (HM2.out.box.later (Kit.dn' w2 1)).tab).mono ?_; rintro e w' ⟨rfl, n', rfl⟩) | (go_at_call 84; refine (MEC.out _ (Kit.dn' w2 _)).mono ?_; rintro e w3 ⟨g, cap, rfl, hge, hbe, hre⟩))
    have hb23 := Kit.step (Kit.dn' w2 _) hbe
    have hgw : w2.heap.size ≤ g := by simpa using hge
    have HM3 : Hid (RgM b T Ct C L B bw (x + 1) oC cC oB cB w3) := Lib.hid ⟨HM2.out.box.later hb23, HM2.out.rC.later hb23, HM2.out.rB.later hb23, HM2.out.fC, HM2.out.fB⟩
    have HBT3 : Hid (Bts (FM b) w.heap.size w w3) := Lib.hid (HBT2.out.trans (bts_mono (fm_below hb23) HBT2.out.size))
    have HRE := Lib.hid hre
    have hgb : b + 9 < g := by have := HM2.out.box.qm.lt; omega
    have hc3 := HM3.out.box.ql.cell
    have h2L : IntKind.i64.wrap (2 * (L : Int)) = 2 * (L : Int) := by rw [IntKind.wrap_i64]; omega
    have hfg : ¬ FM b g := by unfold FM; omega
    clear hc9 hc0 hc6 hge hbe hre hb23 DC MEC HK
    by_cases h2 : 2 * L < n + 1
    · have hdd : decide (2 * (L : Int) < (r.length : Int)) = true := decide_eq_true (by have := HRL.out; omega)
      have HLO2 := Lib.hid (HLO.out h2)
      have hsub : IntKind.i64.wrap ((r.length : Int) - (L : Int)) = ((n + 1 - L : Nat) : Int) := by rw [IntKind.wrap_i64]; have := HRL.out; omega
      have hc2 := HM3.out.box.qn.cell
      have hc5 := HM3.out.box.qo.cell
      have hf5 := HM3.out.box.qo.frozen
      have hc6 := HM3.out.box.qw.cell
      have hf6 := HM3.out.box.qw.frozen
      have hc7 := HM3.out.box.qa.cell
      have hf7 := HM3.out.box.qa.frozen
      have hf3 := HM3.out.box.ql.frozen
      have hf2 := HM3.out.box.qn.frozen
      clear h2
      go_wp2_with fail
      go_region
      obtain ⟨w4, hw4⟩ : ∃ w4, ((((w3.setCell ⟨b + 5, 0, none⟩ (.slice oC C.length cC)).setCell ⟨b + 6, 0, none⟩ (.int .u8 (d.toNat : Int))).setCell ⟨b + 7, 0, none⟩ (.int .i64 0)).setCell ⟨b + 3, 0, none⟩ (.int .i64 ((n + 1 - L : Nat) : Int))).drew = w4 := ⟨_, rfl⟩
      rw [hw4]
      have hbt4 : Bts (FM b) w3.heap.size w3 w4 := by
        rw [← hw4]
        exact (fm_set (by unfold FM; omega)).trans ((fm_set (by unfold FM; omega)).trans ((fm_set (by unfold FM; omega)).trans ((fm_set (by unfold FM; omega)).trans (bts_mono (fm_below (Kit.dn' _ 1)) (by simp)))))
      have hbx4 : RgB b T Ct (.slice oC C.length cC) (.int .i64 ((n + 1 - L : Nat) : Int)) (.slice oC C.length cC) (.int .u8 (d.toNat : Int)) (.int .i64 ((0 : Nat) : Int)) w4 := by
        rw [← hw4]
        exact ((((HM3.out.box.old _).wrong _).ago _).long _).later (Kit.dn' _ 1)
      obtain ⟨w5, hw5⟩ : ∃ w5, w4.setCell ⟨b + 2, 0, none⟩ (.slice (some ⟨g, 0, none⟩) N.length cap) = w5 := ⟨_, rfl⟩
      have hbt5 : Bts (FM b) w3.heap.size w3 w5 := hbt4.trans (by rw [← hw5]; exact fm_set (by unfold FM; omega))
      have HM5 : Hid (RgM b T Ct N (n + 1 - L) C d 0 (some ⟨g, 0, none⟩) cap oC cC w5) := Lib.hid ⟨by rw [← hw5]; exact hbx4.now _, hbt5.row HRE.out (fun _ p hp => by cases hp; exact hfg), hbt5.row HM3.out.rC HM3.out.fC, (fun _ p hp => by cases hp; exact hfg), HM3.out.fC⟩
      have HBT5 : Hid (Bts (FM b) w.heap.size w w5) := Lib.hid (HBT3.out.trans (bts_mono hbt5 HBT3.out.size))
      have HW5 := Lib.hid hw5
      clear hc2 hc3 hc5 hf5 hc6 hf6 hc7 hf7 hf3 hf2
      have hc2 := hbx4.qn.cell
      have hf2 := hbx4.qn.frozen
      clear hw4 hbt4 hbx4 hw5 hbt5
      go_wp2_with (first | rw [HW5.out] | fail)
      go_end0
      exact ⟨⟨_, rfl⟩, N, n + 1 - L, C, d, 0, _, cap, oC, cC, HM5.out, HLO2.out, HBT5.out⟩
    · have hdd : decide (2 * (L : Int) < (r.length : Int)) = false := decide_eq_false (by have := HRL.out; omega)
      have HST2 := Lib.hid (HST.out h2)
      obtain ⟨w4, hw4⟩ : ∃ w4, w3.setCell ⟨b + 2, 0, none⟩ (.slice (some ⟨g, 0, none⟩) N.length cap) = w4 := ⟨_, rfl⟩
      have hbt4 : Bts (FM b) w3.heap.size w3 w4 := by rw [← hw4]; exact fm_set (by unfold FM; omega)
      have HM4 : Hid (RgM b T Ct N L B bw (x + 1) (some ⟨g, 0, none⟩) cap oB cB w4) := Lib.hid ⟨by rw [← hw4]; exact HM3.out.box.now _, hbt4.row HRE.out (fun _ p hp => by cases hp; exact hfg), hbt4.row HM3.out.rB HM3.out.fB, (fun _ p hp => by cases hp; exact hfg), HM3.out.fB⟩
      have HBT4 : Hid (Bts (FM b) w.heap.size w w4) := Lib.hid (HBT3.out.trans (bts_mono hbt4 HBT3.out.size))
      have hc2 := HM3.out.box.qn.cell
      have hf2 := HM3.out.box.qn.frozen
      have HW4 := Lib.hid hw4
      clear h2 hw4 hbt4
      go_wp2_with (first | rw [HW4.out] | fail)
      go_end0
      exact ⟨⟨_, rfl⟩, N, L, B, bw, x + 1, _, cap, oB, cB, HM4.out, HST2.out, HBT4.out⟩
end Go.Proofs.YtgchfijeiggimaaDoor
namespace Go.Proofs.YtgchfijeiggimaaDoor
open Go.RowKit
set_option linter.unusedVariables false
set_option linter.unusedSimpArgs false
set_option maxRecDepth 100000 in
set_option maxHeartbeats 2000000 in
theorem told_any (b L : Nat) (C : List UInt8) (oC : Option Addr) (cC : Nat) (w : World) (hn : Boxed w (b + 2) 22 (.slice oC C.length cC)) (hl : Boxed w (b + 3) 3 (.int .i64 (L : Int))) (hC : RowIs w oC (bytesV C) cC) (hCl : C.length ≤ 10000) :
    Calls Tryd.prog 86 #[.pointer (some ⟨b + 2, 0, none⟩), .pointer (some ⟨b + 3, 0, none⟩)] w fun e w' => ∃ x, e = .returned (.tuple #[x, .int .i64 (L : Int)]) ∧ RowV (tr C) x w' ∧ Below w.heap.size w w' := by
  have hc2 := hn.cell
  have hc3 := hl.cell
  have HK : Hid (∀ v, Below w.heap.size w v → v.cell? ⟨b + 2, 0, none⟩ = some (.slice oC C.length cC) ∧ v.cell? ⟨b + 3, 0, none⟩ = some (.int .i64 (L : Int))) := Lib.hid fun v hv => ⟨(boxed_later hn hv).cell, (boxed_later hl hv).cell⟩
  have TC : Hid (∀ v, Below w.heap.size w v → Calls Tryd.prog 64 #[.slice oC C.length cC] v (Rows (tr C) v)) := Lib.hid fun v hv => trim_any C oC cC v (hC.later hv) (by omega)
  clear hn hl hC
  go_enter Tryd.func86, Tryd.ntmps86
  go_wp2_with fail
  go_region_held3 (fun v => v.cell? ⟨b + 2, 0, none⟩ = some (.slice oC C.length cC) ∧ v.cell? ⟨b + 3, 0, none⟩ = some (.int .i64 (L : Int))) (first | exact HK.out _ (Kit.dn' w 0) | exact HK.out _ (Kit.dn' w 1) | exact HK.out _ (Kit.step (Kit.dn' w 1) (by assumption))) (first | (go_at_call 64; refine (TC.out _ (Kit.dn' w 1)).mono ?_; rintro e w3 ⟨x, rfl, hx, hbe⟩; obtain ⟨o3, c3, rfl, hx⟩ := hx))
  go_wp2_with fail
  go_ret2
  exact ⟨_, rfl, ⟨o3, c3, rfl, hx⟩, Kit.step (Kit.dn' w 1) hbe⟩
theorem below_alloc {W X : World} (h : Below W.heap.size W X) (o : Obj) : Below W.heap.size W (X.alloc o) := h.alloc h.size o
set_option maxRecDepth 100000 in
set_option maxHeartbeats 2000000 in
theorem register0_any (w : World) : Calls Tryd.prog 75 #[] w fun e w' => ∃ b T Ct, e = .returned (.tuple #[.func (.func 85) #[] #[.pointer (some ⟨b + 7, 0, none⟩), .pointer (some ⟨b + 8, 0, none⟩), .pointer (some ⟨b + 9, 0, none⟩), .pointer (some ⟨b, 0, none⟩), .pointer (some ⟨b + 6, 0, none⟩), .pointer (some ⟨b + 3, 0, none⟩), .pointer (some ⟨b + 2, 0, none⟩), .pointer (some ⟨b + 5, 0, none⟩)],
      .func (.func 86) #[] #[.pointer (some ⟨b + 2, 0, none⟩), .pointer (some ⟨b + 3, 0, none⟩)]]) ∧ w.heap.size ≤ b ∧ RgM b T Ct [1] 0 [1] 1 0 (some ⟨b + 1, 0, none⟩) 1 (some ⟨b + 4, 0, none⟩) 1 w' ∧ Below w.heap.size w w' := by
  go_enter Tryd.func75, Tryd.ntmps75
  go_wp2_with fail
  refine (make_any _).mono ?_; rintro e w1 ⟨n, C, hC, rfl, hw1⟩
  have hT1 : TabAt w1 w.heap.size C := by rw [hw1]; exact TabAt.made hC
  have hb1 : Below w.heap.size w w1 := by rw [hw1]; exact made_below
  have hs1 : w1.heap.size = w.heap.size + 1 := by rw [hw1]; simp
  have HT1 := Lib.hid hT1
  have HB1 := Lib.hid hb1
  have HS1 := Lib.hid hs1
  clear hC hT1 hb1 hw1 hs1
  go_wp2_with fail
  have hb : ∀ (W : World) (k : Nat) (h : W.heap.size = k) (t : TypeId) (v : Value), Boxed (W.alloc (.cells #[v] t)) k t v := fun W k h t v => h ▸ Boxed.new W t v
  have hrow : ∀ (W : World) (k : Nat), Boxed W k 5 (.int .u8 1) → RowIs W (some ⟨k, 0, none⟩) (bytesV [1]) 1 := fun W k h => row_cells (z := [1]) h (by unfold maxLen; simp)
  have hs := HS1.out
  go_ret2
  refine ⟨w1.heap.size, w.heap.size, C, rfl, by omega, ⟨⟨by omega, ?_, ((((((((((hb _ _ (by simp) _ _).alloc _).alloc _).alloc _).alloc _).alloc _).alloc _).alloc _).alloc _).alloc _), ((((((((hb _ _ (by simp) _ _).alloc _).alloc _).alloc _).alloc _).alloc _).alloc _).alloc _), (((((((hb _ _ (by simp) _ _).alloc _).alloc _).alloc _).alloc _).alloc _).alloc _), (((((hb _ _ (by simp) _ _).alloc _).alloc _).alloc _).alloc _), ((((hb _ _ (by simp) _ _).alloc _).alloc _).alloc _), (((hb _ _ (by simp) _ _).alloc _).alloc _), ((hb _ _ (by simp) _ _).alloc _), (hb _ _ (by simp) _ _)⟩, hrow _ _ (((((((((hb _ _ (by simp) _ _).alloc _).alloc _).alloc _).alloc _).alloc _).alloc _).alloc _).alloc _), hrow _ _ ((((((hb _ _ (by simp) _ _).alloc _).alloc _).alloc _).alloc _).alloc _), (fun _ p hp => by cases hp; unfold FM; dsimp only; omega), (fun _ p hp => by cases hp; unfold FM; dsimp only; omega)⟩, ?_⟩
  · exact HT1.out.later (below_alloc (below_alloc (below_alloc (below_alloc (below_alloc (below_alloc (below_alloc (below_alloc (below_alloc (below_alloc (Below.refl w1.heap.size w1) _) _) _) _) _) _) _) _) _) _)
  · exact Kit.step HB1.out (below_alloc (below_alloc (below_alloc (below_alloc (below_alloc (below_alloc (below_alloc (below_alloc (below_alloc (below_alloc (Below.refl w1.heap.size w1) _) _) _) _) _) _) _) _) _) _)
end Go.Proofs.YtgchfijeiggimaaDoor
namespace Go.Proofs.YtgchfijeiggimaaDoor
open Go.RowKit
set_option linter.unusedVariables false
set_option linter.unusedSimpArgs false
def RxAt (s : List UInt8) (b T : Nat) (Ct : Array Value) (w : World) (iv : Value) (wr : World) : Prop :=
  ∃ k : Nat, k ≤ s.length ∧ iv = .int .i64 k ∧ (∃ C L B bw x oC cC oB cB, RgM b T Ct C L B bw x oC cC oB cB wr ∧ Gf.Reg (co s) k C L B bw x) ∧ Below w.heap.size w wr
def RegTo (s : List UInt8) (w : World) (e : Ending) (w' : World) : Prop :=
  ∃ C L x, e = .returned (.tuple #[x, .int .i64 ((L : Nat) : Int)]) ∧ RowV (tr C) x w' ∧ Below w.heap.size w w' ∧ Gf.Run (co s) s.length (co C) L ∧ Gf.Least (co s) s.length L ∧ L ≤ s.length ∧ C.length ≤ L + 1
set_option maxRecDepth 100000 in
set_option maxHeartbeats 4000000 in
theorem creg_any (s : List UInt8) (o : Option Addr) (c : Nat) (w : World) (hS : RowIs w o (bytesV s) c) (hl : s.length ≤ 900) :
    Calls Tryd.prog 50 #[.slice o s.length c] w (RegTo s w) := by
  have h1 := hS.le
  have h2 := hS.cap
  simp only [bytesV_length] at h1
  unfold maxLen at h2
  have HS := Lib.hid hS
  clear hS
  go_enter Tryd.func50, Tryd.ntmps50
  go_wp2_with fail
  refine (register0_any _).mono ?_; rintro e w1 ⟨b, T, Ct, rfl, hb, hm, hb1⟩
  have HM := Lib.hid hm
  have HB := Lib.hid hb
  have HB1 := Lib.hid hb1
  clear hm hb hb1
  go_wp2_with fail
  go_loopw [6, 13] (fun _ i wr => RxAt s b T Ct w i wr) (fun _ i _ => s.length - (intOf i).toNat)
  case atStart => exact ⟨0, Nat.zero_le _, rfl, ⟨[1], 0, [1], 1, 0, _, _, _, _, HM.out, Gf.Reg.first _⟩, HB1.out⟩
  case round =>
    obtain ⟨k, hk, rfl, ⟨C, L, B, bw, x, oC, cC, oB, cB, hm, hg⟩, hb⟩ := hrel
    by_cases hlt : k < s.length
    · have hlen : (s.take (k + 1)).length = k + 1 := by simp; omega
      have hR : RowIs wr o (bytesV (s.take (k + 1))) c := (HS.out.later hb).take (k + 1)
      have hRf : ∀ p, o = some p → ¬ FM b p.block := fun p hp => by
        obtain ⟨b1, off1, h1, h2, _⟩ := HS.out.cells (by simp; omega)
        rw [h1] at hp
        cases hp
        have := HB.out
        unfold FM; dsimp only; omega
      have hf := feed_any b T Ct s k C L B bw x oC cC oB cB o c wr hm hg hlt hl hR hRf
      rw [hlen] at hf
      obtain ⟨j, hj⟩ : ∃ j, k + 1 = j := ⟨_, rfl⟩
      rw [hj] at hf
      have hw1 : IntKind.i64.wrap ((k : Int) + 1) = (j : Int) := by rw [IntKind.wrap_i64]; omega
      have hj0 : (0 : Int) ≤ (j : Int) := by omega
      have hjc : (j : Int) ≤ (c : Int) := by omega
      have hki : (k : Int) < (s.length : Int) := by omega
      have HF := Lib.hid hf
      have HBW := Lib.hid hb
      have HJ := Lib.hid hj
      clear hf hb hm hg hR hRf hlen hj
      go_wp2_with fail
      refine HF.out.mono ?_; rintro e w2 ⟨⟨v, rfl⟩, C2, L2, B2, bw2, x2, oC2, cC2, oB2, cB2, hm2, hg2, hbt⟩
      have hb2 : Below w.heap.size w w2 := HBW.out.trans (hbt.below (fun k hk => by have := HB.out; unfold FM at hk; omega) HBW.out.size HBW.out.size)
      have HM2 := Lib.hid hm2
      have HG2 := Lib.hid hg2
      have HB2 := Lib.hid hb2
      clear hm2 hg2 hbt hb2 HF
      go_wp2_with fail
      go_roundw
      case rel => exact ⟨k + 1, by omega, by have := HJ.out; go_num, ⟨C2, L2, B2, bw2, x2, oC2, cC2, oB2, cB2, HM2.out, HG2.out⟩, HB2.out⟩
      case measure => have := HJ.out; simp [intOf]; omega
    · obtain rfl : k = s.length := by omega
      have hcl := hg.len
      have hle := hg.le
      have HT := Lib.hid (told_any b L C oC cC wr hm.box.qn hm.box.ql hm.rC (by omega))
      have HG := Lib.hid hg
      have HBW := Lib.hid hb
      clear hm hg hb
      go_wp2_with fail
      refine HT.out.mono ?_; rintro e w2 ⟨y, rfl, hy, hb⟩
      have HY := Lib.hid hy
      have HB2 := Lib.hid (Kit.step HBW.out hb)
      clear hb hy
      go_wp2_with fail
      go_ret2
      exact ⟨C, L, y, rfl, HY.out, HB2.out, HG.out.run, HG.out.least, hle, hcl⟩
end Go.Proofs.YtgchfijeiggimaaDoor
