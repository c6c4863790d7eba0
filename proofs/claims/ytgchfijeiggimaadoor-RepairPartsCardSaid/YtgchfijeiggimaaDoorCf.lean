/- The document's forney syndromes. The code's Forney. -/
import Derived.Test.YtgchfijeiggimaaDoorRr
import Derived.Test.YtgchfijeiggimaaDoorGf
import Derived.Test.YtgchfijeiggimaaDoorOf
namespace Go.Proofs.YtgchfijeiggimaaDoor
open Go.RowKit
set_option linter.unusedVariables false
set_option linter.unusedSimpArgs false
theorem row_cells_at {X : World} {A : Nat} {t : TypeId} {z : List UInt8} (h : X.heap[A]? = some (.cells (bytesV z).toArray t (0, 0))) (hm : z.length ≤ maxLen) : RowIs X (some ⟨A, 0, none⟩) (bytesV z) z.length :=
  ⟨by simp, hm, (fun e => by cases e), fun h0 => ⟨A, 0, rfl, (Array.getElem?_eq_some_iff.1 h).1, fun i v hv => by
    rw [Nat.zero_add]
    simp only [World.cell?, h]
    simpa using hv⟩⟩
/-- the coefficients from that of x to the power e on, up to the power 31 -/
def forL (s g : List UInt8) : List UInt8 := tab (fun i => co (mulL s g) ((tr g).length - 1 + i)) (32 - ((tr g).length - 1))
def FoAt (P : List UInt8) (e : Nat) (w : World) (v iv : Value) (wr : World) : Prop :=
  ∃ k : Nat, e + k ≤ 32 ∧ iv = .int .i64 ((e + k : Nat) : Int) ∧ wr.ownsRow w.heap.size 5 1 v k (bytesV (tab (fun i => co P (e + i)) k)) ∧ Below w.heap.size w wr
end Go.Proofs.YtgchfijeiggimaaDoor
namespace Go.Proofs.YtgchfijeiggimaaDoor
open Go.RowKit
set_option linter.unusedVariables false
set_option linter.unusedSimpArgs false
/-- the row so far -/
def fnL (P : List UInt8) (E N k : Nat) : List UInt8 := tab (fun i => if i < k then co P (E + i) else 0) N
theorem fnL_zero (P : List UInt8) (E N : Nat) : List.replicate N (0 : UInt8) = fnL P E N 0 := list_ext (by simp [fnL]) fun i hi => by
  rw [zeros_co, fnL, co_tab _ _ _ (by simpa using hi), if_neg (by omega)]
theorem fnL_set (P : List UInt8) (E N k : Nat) (h : k < N) : (fnL P E N k).set k (co P (E + k)) = fnL P E N (k + 1) := list_ext (by simp [fnL]) fun i hi => by
  have hi2 : i < N := by simpa [fnL] using hi
  rw [co_set, fnL, fnL, co_tab _ _ _ hi2, co_tab _ _ _ hi2, tab_length]
  by_cases e : k = i
  · subst e
    rw [if_pos ⟨rfl, h⟩, if_pos (by omega)]
  · rw [if_neg (fun h => e h.1)]
    by_cases h2 : i < k
    · rw [if_pos h2, if_pos (by omega)]
    · rw [if_neg h2, if_neg (by omega)]
theorem fnL_skip (P : List UInt8) (E N k : Nat) (h : P.length ≤ E + k) : fnL P E N k = fnL P E N (k + 1) := list_ext (by simp [fnL]) fun i hi => by
  have hi2 : i < N := by simpa [fnL] using hi
  rw [fnL, fnL, co_tab _ _ _ hi2, co_tab _ _ _ hi2]
  by_cases h2 : i < k
  · rw [if_pos h2, if_pos (by omega)]
  · by_cases e : i = k
    · subst e
      rw [if_neg h2, if_pos (by omega), co_ge h]
    · rw [if_neg h2, if_neg (by omega)]
def CfAt (P : List UInt8) (E N : Nat) (w3 : World) (iv : Value) (wr : World) : Prop :=
  ∃ k : Nat, k ≤ N ∧ iv = .int .i64 k ∧ Buf wr w3.heap.size N (fnL P E N k) ∧ Below w3.heap.size w3 wr
set_option maxRecDepth 100000 in
set_option maxHeartbeats 4000000 in
theorem cfor_any (s g : List UInt8) (o : Option Addr) (c : Nat) (w : World) (hs : s.length = 32) (hG : RowIs w o (bytesV g) c) (hl : g.length ≤ 10000) (h0 : 1 ≤ (tr g).length) (he : (tr g).length ≤ 33) (C : Array Value) (hC : (bytesV s).toArray = C) :
    Calls Tryd.prog 49 #[.agg C, .slice o g.length c] w (Rows (forL s g) w) := by
  obtain ⟨i0, hi, hz0, hz1, hz2⟩ := info_parts info_u8
  have h3 := hG.le
  have h4 := hG.cap
  simp only [bytesV_length] at h3
  unfold maxLen at h4
  obtain ⟨w1, hw1⟩ : ∃ w1, w.alloc (.cells C 60) = w1 := ⟨_, rfl⟩
  have hb1 : Below w.heap.size w w1 := by rw [← hw1]; exact (Below.refl _ _).alloc (Nat.le_refl _) _
  have hg1 : w1.heap[w.heap.size]? = some (.cells C 60 (0, 0)) := by rw [← hw1]; exact World.alloc_heap_new w _
  have hdg := deg_any o g c w1 (hG.later hb1)
  rw [← tr_length] at hdg
  obtain ⟨E, hE⟩ : ∃ E, (tr g).length = E + 1 := ⟨(tr g).length - 1, by omega⟩
  rw [hE, show ((E + 1 : Nat) : Int) - 1 = (E : Int) by omega, ← hw1] at hdg
  obtain ⟨N, hN⟩ : ∃ N, 32 - E = N := ⟨_, rfl⟩
  have HDG := Lib.hid hdg
  have HB1 := Lib.hid hb1
  have HG1 := Lib.hid hg1
  have HW1 := Lib.hid hw1
  have HG := Lib.hid hG
  have HSZ := Lib.hid (csyn_size hs)
  rw [hC] at HSZ
  have HFO : Hid (forL s g = tab (fun i => co (tr (mulL (tr s) g)) (E + i)) N) := Lib.hid (by
    unfold forL
    rw [hE, Nat.add_sub_cancel, hN]
    refine list_ext (by simp) fun i hi => ?_
    have hi : i < N := by simpa using hi
    rw [co_tab _ _ _ hi, co_tab _ _ _ hi, co_tr]
    exact mulL_congr (fun j => (co_tr s j).symm) (fun _ => rfl) _)
  have hEN : E + N = 32 := by omega
  have HC := Lib.hid hC
  have hd1 : decide ((32 : Int) < (E : Int)) = false := decide_eq_false (by omega)
  clear hG hb1 hg1 hdg hw1 hE h0 he hN hC
  go_enter Tryd.func49, Tryd.ntmps49
  go_wp2_with fail
  refine HDG.out.mono ?_; rintro e w2 ⟨rfl, hb⟩
  rw [HW1.out] at hb
  have HB2 := Lib.hid (Kit.step HB1.out hb)
  have HG2 : Hid (w2.heap[w.heap.size]? = some (.cells C 60 (0, 0))) := Lib.hid (by rw [hb.block _ (Array.getElem?_eq_some_iff.1 HG1.out).1]; exact HG1.out)
  have hpo := spoly_any s hs w2
  rw [HC.out] at hpo
  have HPO := Lib.hid hpo
  clear hb HDG hpo
  go_wp2_with (refine wpList_load_row rfl 60 (.tmp 2) rfl w.heap.size rfl 60 C (0, 0) _ HG2.out csyn_under rfl HSZ.out ?_)
  refine HPO.out.mono ?_; rintro e w3 ⟨x, rfl, hx, hb⟩
  obtain ⟨o3, c3, rfl, hx⟩ := hx
  have HB3 := Lib.hid (Kit.step HB2.out hb)
  have hts := tr_le s
  have hmu := mul_poly_any (tr s) g o3 o c3 c w3 hx (HG.out.later HB3.out) (by omega)
  have HMU := Lib.hid hmu
  have hPl : (tr (mulL (tr s) g)).length ≤ 11000 := by
    have h5 := tr_le (mulL (tr s) g)
    have h6 : (mulL (tr s) g).length = (tr s).length + g.length := by simp [mulL]
    omega
  clear hx hb hmu HPO
  generalize tr (mulL (tr s) g) = P at *
  go_wp2_with fail
  refine HMU.out.mono ?_; rintro e w4 ⟨gp, cp, rfl, hgp, hb, hr⟩
  have HB4 := Lib.hid (Kit.step HB3.out hb)
  have HP4 := Lib.hid hr
  have hPc := hr.le
  have hPc2 := hr.cap
  simp only [bytesV_length] at hPc
  unfold maxLen at hPc2
  have hgp4 : 0 < P.length → gp < w4.heap.size := fun h0 => by
    obtain ⟨b1, f1, e1, h1, _⟩ := hr.cells (by simpa using h0)
    cases e1; exact h1
  have HGP := Lib.hid hgp4
  have hwN : IntKind.i64.wrap (32 - (E : Int)) = (N : Int) := by rw [IntKind.wrap_i64]; omega
  clear hb hr hgp HMU hgp4
  go_wp2_with (at_make; go_loud (refine wpList_make_full _ rfl _ _ 22 rfl 0 5 i0 (.int .u8 0) 1 Tryd.underlying22 hi hz0 hz1 _ _ _ _ N rfl rfl (by omega) (by omega) (by rw [hz2]; omega) (by unfold maxLen; omega) (Nat.zero_le _) ?_))
  intro w5 hown hgrow
  have hb5 : Below w4.heap.size w4 w5 := (Below.refl _ _).grown hgrow (Nat.le_refl _) (fun k h => by cases h)
  have hbuf := buf_made hown
  rw [fnL_zero P E N] at hbuf
  have HB5 := Lib.hid hb5
  have HBUF := Lib.hid hbuf
  have HP5 := Lib.hid (HP4.out.later hb5)
  clear hown hgrow hb5 hbuf
  go_wp2_with fail
  go_loopw [8, 9, 23] (fun _ _ i wr => CfAt P E N w4 i wr) (fun _ _ i _ => N - (intOf i).toNat)
  case atStart => exact ⟨0, Nat.zero_le _, rfl, HBUF.out, HB5.out⟩
  case round =>
    obtain ⟨k, hk, rfl, hbu, hb⟩ := hrel
    by_cases hlt : k < N
    · obtain ⟨m, hm⟩ : ∃ m, E + k = m := ⟨_, rfl⟩
      have hwm : IntKind.i64.wrap ((E : Int) + (k : Int)) = (m : Int) := by rw [IntKind.wrap_i64]; omega
      have hm0 : decide ((0 : Int) ≤ (m : Int)) = true := decide_eq_true (by omega)
      have hk0 : (0 : Int) ≤ (k : Int) := by omega
      have hk1 : (k : Int) < (N : Int) := by omega
      have HB6 := Lib.hid hb
      by_cases hmp : m < P.length
      · have hmd : decide ((m : Int) < (P.length : Int)) = true := decide_eq_true (by omega)
        obtain ⟨b1, off1, e1, hb1, hcell⟩ := (HP4.out.later hb).cells (by simp; omega)
        cases e1
        have hc1 : wr.cell? ⟨gp, 0 + m, none⟩ = some (.int .u8 ((co P m).toNat : Int)) := hcell m _ (bytesV_get P m hmp)
        have hc2 := hbu.cell k (by simp [fnL]; exact hlt)
        have hf2 := hbu.frozen k
        have hst := hbu.store k (co P m)
        rw [← hm, fnL_set P E N k hlt, hm] at hst
        have HST := Lib.hid hst
        have hmi : (m : Int) < (P.length : Int) := by omega
        have hm00 : (0 : Int) ≤ (m : Int) := by omega
        rw [Nat.zero_add] at hc1
        generalize co P m = x at *
        have hxl := UInt8.toNat_lt x
        clear hcell hb1 hbu hst hb hm
        go_wp2_with fail
        go_roundw
        case rel => exact ⟨k + 1, by omega, by go_num, HST.out.1, HB6.out.trans (Only.below HST.out.2 (Nat.le_refl _) HB6.out.size)⟩
        case measure => simp [intOf]; omega
      · have hmd : decide ((m : Int) < (P.length : Int)) = false := decide_eq_false (by omega)
        rw [fnL_skip P E N k (by omega)] at hbu
        have HST := Lib.hid hbu
        clear hbu hb
        go_wp2_with fail
        go_roundw
        case rel => exact ⟨k + 1, by omega, by go_num, HST.out, HB6.out⟩
        case measure => simp [intOf]; omega
    · obtain rfl : k = N := by omega
      have hfin : fnL P E k k = forL s g := by
        rw [HFO.out]
        exact list_ext (by simp [fnL]) fun i hi => by
          have hi : i < k := by simpa [fnL] using hi
          rw [fnL, co_tab _ _ _ hi, co_tab _ _ _ hi, if_pos hi]
      have HL : Hid (k = (forL s g).length) := Lib.hid (by rw [HFO.out]; simp)
      have HR := Lib.hid hbu.row
      rw [hfin] at HR
      have HB7 := Lib.hid (HB4.out.trans (hb.mono HB4.out.size))
      clear hbu hb hfin
      go_wp2_with fail
      go_ret
      exact ⟨_, rfl, ⟨_, _, by rw [← HL.out]; rfl, HR.out⟩, HB7.out⟩
end Go.Proofs.YtgchfijeiggimaaDoor
