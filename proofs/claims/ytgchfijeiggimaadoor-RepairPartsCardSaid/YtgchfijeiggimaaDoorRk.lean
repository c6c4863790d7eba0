/- Registers step by step: what is kept of the polynomial, the length, the elder polynomial, its number and how long ago. The code's register: what is off, the mended polynomial. -/
import Derived.Test.YtgchfijeiggimaaDoorMs
import Derived.Test.YtgchfijeiggimaaDoorMu
import Derived.Test.YtgchfijeiggimaaDoorAp
import Derived.BigQuiet
import Derived.StillTailTactics
namespace Go.Proofs.YtgchfijeiggimaaDoor
set_option linter.unusedVariables false
namespace Gf
theorem dis_len (s : Nat → UInt8) (C : List UInt8) (L n : Nat) (h : C.length ≤ L + 1) : sm (fun j => gm (co C j) (s (n - j))) C.length = dis s (co C) L n :=
  (sm_more h fun j hj => by rw [co_ge hj, zero_gm]).symm
/-- the polynomial plus the elder one times a number and a power of x -/
def mendL (C B : List UInt8) (a : UInt8) (x : Nat) : List UInt8 := tab (fun j => co C j ^^^ gm a (ps x (co B) j)) (max C.length (x + B.length))
theorem mendL_length (C B : List UInt8) (a : UInt8) (x : Nat) : (mendL C B a x).length = max C.length (x + B.length) := by simp [mendL]
theorem co_mendL (C B : List UInt8) (a : UInt8) (x : Nat) : co (mendL C B a x) = mend (co C) (co B) a x := funext fun j => by
  unfold mendL mend
  refine co_tab' _ _ _ fun i hi => ?_
  unfold ps
  rw [co_ge (by omega)]
  split
  · rw [co_ge (by omega), gm_zero]; rfl
  · rw [gm_zero]; rfl
/-- behind n numbers -/
structure Reg (s : Nat → UInt8) (n : Nat) (C : List UInt8) (L : Nat) (B : List UInt8) (b : UInt8) (x : Nat) : Prop where
  run : Run s n (co C) L
  least : Least s n L
  le : L ≤ n
  len : C.length ≤ L + 1
  bpos : 1 ≤ B.length
  bne : b ≠ 0
  xle : x ≤ n
  blen : x + B.length ≤ n + 1
  old : (L = 0 ∧ x = n ∧ B = [1] ∧ b = 1) ∨ ∃ M m, Run s m (co B) M ∧ B.length ≤ M + 1 ∧ L + M = m + 1 ∧ x + m + 1 = n ∧ dis s (co B) M m = b
theorem Reg.pos {s : Nat → UInt8} {n L x : Nat} {C B : List UInt8} {b : UInt8} (h : Reg s n C L B b x) : 1 ≤ C.length := by
  have := co_lt (ys := C) (i := 0) (by rw [h.run.one]; decide)
  omega
theorem Reg.first (s : Nat → UInt8) : Reg s 0 [1] 0 [1] 1 0 :=
  ⟨Run.first rfl, fun d M k => Nat.zero_le _, Nat.le_refl _, Nat.le_refl _, Nat.le_refl _, by decide, Nat.le_refl _, Nat.le_refl _, .inl ⟨rfl, rfl, rfl, rfl⟩⟩
theorem Reg.same {s : Nat → UInt8} {n L x : Nat} {C B : List UInt8} {b : UInt8} (h : Reg s n C L B b x) (hd : dis s (co C) L n = 0) : Reg s (n + 1) C L B b (x + 1) :=
  ⟨h.run.more fun _ => hd, h.least.more, by have := h.le; omega, h.len, h.bpos, h.bne, by have := h.xle; omega, by have := h.blen; omega, by
    rcases h.old with ⟨h1, h2, h3, h4⟩ | ⟨M, m, h1, h2, h3, h4, h5⟩
    · exact .inl ⟨h1, by omega, h3, h4⟩
    · exact .inr ⟨M, m, h1, h2, h3, by omega, h5⟩⟩
theorem Reg.mended {s : Nat → UInt8} {n L x : Nat} {C B : List UInt8} {b : UInt8} (h : Reg s n C L B b x) (hd : dis s (co C) L n ≠ 0) :
    Run s (n + 1) (co (mendL C B (gd (dis s (co C) L n) b) (x + 1))) (max L (n + 1 - L)) ∧ (mendL C B (gd (dis s (co C) L n) b) (x + 1)).length ≤ max L (n + 1 - L) + 1 := by
  have hl := h.len
  have hb := h.blen
  have hle := h.le
  rw [co_mendL, mendL_length]
  rcases h.old with ⟨h1, h2, h3, h4⟩ | ⟨M, m, h1, h2, h3, h4, h5⟩
  · subst h1
    refine ⟨?_, by omega⟩
    have : max 0 (n + 1 - 0) = n + 1 := by omega
    rw [this]
    refine Run.first ?_
    unfold mend ps
    rw [if_neg (by omega), gm_zero, UInt8.xor_zero, h.run.one]
  · have hx : x + 1 = n - m := by omega
    have hs := Run.step h.run (fun j hj => co_ge (by omega)) h1 (fun j hj => co_ge (by omega)) (by omega) h3 (show gm (gd (dis s (co C) L n) b) (dis s (co B) M m) = dis s (co C) L n by rw [h5]; exact gd_gm _ _ h.bne)
    rw [← hx] at hs
    exact ⟨hs.1, by omega⟩
theorem Reg.longer {s : Nat → UInt8} {n L x : Nat} {C B : List UInt8} {b : UInt8} (h : Reg s n C L B b x) (hd : dis s (co C) L n ≠ 0) (h2 : 2 * L < n + 1) :
    Reg s (n + 1) (mendL C B (gd (dis s (co C) L n) b) (x + 1)) (n + 1 - L) C (dis s (co C) L n) 0 := by
  have hm := h.mended hd
  have hle := h.le
  have hl := h.len
  have e : max L (n + 1 - L) = n + 1 - L := by omega
  have hls := h.least.step h.run hd
  rw [e] at hm hls
  exact ⟨hm.1, hls, by omega, hm.2, h.pos, hd, by omega, by omega, .inr ⟨L, n, h.run, hl, by omega, by omega, rfl⟩⟩
theorem Reg.still {s : Nat → UInt8} {n L x : Nat} {C B : List UInt8} {b : UInt8} (h : Reg s n C L B b x) (hd : dis s (co C) L n ≠ 0) (h2 : ¬ 2 * L < n + 1) :
    Reg s (n + 1) (mendL C B (gd (dis s (co C) L n) b) (x + 1)) L B b (x + 1) := by
  have hm := h.mended hd
  have hls := h.least.step h.run hd
  have hle := h.le
  have e : max L (n + 1 - L) = L := by omega
  rw [e] at hm hls
  refine ⟨hm.1, hls, by omega, hm.2, h.bpos, h.bne, by have := h.xle; omega, by have := h.blen; omega, ?_⟩
  rcases h.old with ⟨h1, _⟩ | ⟨M, m, h1, h2, h3, h4, h5⟩
  · omega
  · exact .inr ⟨M, m, h1, h2, h3, by omega, h5⟩
end Gf
end Go.Proofs.YtgchfijeiggimaaDoor
namespace Go.Proofs.YtgchfijeiggimaaDoor
open Go.RowKit
set_option linter.unusedVariables false
set_option linter.unusedSimpArgs false
def offS (C r : List UInt8) (k : Nat) : UInt8 := Gf.sm (fun j => Gf.gm (co C j) (co r (r.length - 1 - j))) k
def OffAt (C r : List UInt8) (w : World) (s iv : Value) (wr : World) : Prop :=
  ∃ k : Nat, k ≤ C.length ∧ iv = .int .i64 k ∧ s = .int .u8 ((offS C r k).toNat : Int) ∧ Kit.Dn w wr
set_option maxRecDepth 100000 in
set_option maxHeartbeats 2000000 in
theorem off_any (b T : Nat) (Ct : Array Value) (C r : List UInt8) (oC oR : Option Addr) (cC cR : Nat) (w : World) (hT : TabAt w T Ct) (hqt : Boxed w b 80 (.pointer (some ⟨T, 0, none⟩)))
    (hqn : Boxed w (b + 2) 22 (.slice oC C.length cC)) (hC : RowIs w oC (bytesV C) cC) (hR : RowIs w oR (bytesV r) cR) (hle : C.length ≤ r.length) :
    Calls Tryd.prog 83 #[.slice oR r.length cR, .pointer (some ⟨b + 2, 0, none⟩), .pointer (some ⟨b, 0, none⟩)] w fun e w' => e = .returned (.int .u8 ((offS C r C.length).toNat : Int)) ∧ Kit.Dn w w' := by
  have h1 := hC.le
  have h2 := hC.cap
  have h3 := hR.le
  have h4 := hR.cap
  simp only [bytesV_length] at h1 h3
  unfold maxLen at h2 h4
  have HT := Lib.hid hT
  have HQT := Lib.hid hqt
  have hcn := hqn.cell
  have HC := Lib.hid hC
  have HR := Lib.hid hR
  clear hT hqt hqn hC hR
  go_enter Tryd.func83, Tryd.ntmps83
  go_wp2_with fail
  clear hcn
  go_loopw [5, 6, 7, 10] (fun s _ _ i wr => OffAt C r w s i wr) (fun _ _ _ i _ => C.length - (intOf i).toNat)
  case atStart => exact ⟨0, Nat.zero_le _, rfl, rfl, Kit.Dn.refl _⟩
  case round =>
    obtain ⟨k, hk, rfl, rfl, hd⟩ := hrel
    have HD := Lib.hid hd
    clear hd
    by_cases hlt : k < C.length
    · obtain ⟨b1, off1, rfl, hb1, hcell⟩ := (HC.out.later HD.out.below).cells (by simp; omega)
      obtain ⟨b2, off2, rfl, hb2, hcell2⟩ := (HR.out.later HD.out.below).cells (by simp; omega)
      have hc1 : wr.cell? ⟨b1, off1 + k, none⟩ = some (.int .u8 ((co C k).toNat : Int)) := hcell k _ (bytesV_get C k hlt)
      obtain ⟨m, hm⟩ : ∃ m, r.length - 1 - k = m := ⟨_, rfl⟩
      have hc2 : wr.cell? ⟨b2, off2 + m, none⟩ = some (.int .u8 ((co r m).toNat : Int)) := hcell2 m _ (bytesV_get r m (by omega))
      have hct := (boxed_later HQT.out HD.out.below).cell
      have HS : Hid (offS C r k ^^^ Gf.gm (co C k) (co r m) = offS C r (k + 1)) := Lib.hid (by rw [← hm]; rfl)
      have hw1 : IntKind.i64.wrap ((r.length : Int) - 1) = (r.length : Int) - 1 := by rw [IntKind.wrap_i64]; omega
      have hw2 : IntKind.i64.wrap ((r.length : Int) - 1 - (k : Int)) = (m : Int) := by rw [IntKind.wrap_i64]; omega
      have hm0 : (0 : Int) ≤ (m : Int) := by omega
      have hm1 : (m : Int) < (r.length : Int) := by omega
      have HM := Lib.hid hm
      generalize offS C r k = s at *
      generalize co C k = x at *
      generalize co r m = y at *
      have hx := UInt8.toNat_lt x
      have hs := UInt8.toNat_lt s
      have hy := UInt8.toNat_lt y
      have MC : Hid (∀ n, Calls Tryd.prog 69 #[.pointer (some ⟨T, 0, none⟩), .int .u8 (x.toNat : Int), .int .u8 (y.toNat : Int)] (wr.drewN n) fun e w' => e = .returned (.int .u8 ((Gf.gm x y).toNat : Int)) ∧ ∃ m, w' = (wr.drewN n).drewN m) := Lib.hid fun n => tmul_dn x y T Ct _ ((HT.out.later HD.out.below).later (Kit.dn' _ _))
      generalize Gf.gm x y = u at *
      have hu := UInt8.toNat_lt u
      have AC : Hid (∀ v : World, Calls Tryd.prog 56 #[.int .u8 (s.toNat : Int), .int .u8 (u.toNat : Int)] v fun e w' => e = .returned (.int .u8 ((s ^^^ u).toNat : Int)) ∧ w' = v) := Lib.hid fun v => add_u8 s u v
      generalize hq : s ^^^ u = q at *
      have HQ := Lib.hid hq
      clear hcell hcell2 hm hq
      go_wp2_with fail
      go_quiet ((first | (go_at_call 69; exact Calls.quiet_of (MC.out _)) | (go_at_call 56; exact Calls.quiet_of_same (AC.out _))))
      go_wp2
      go_roundw
      case rel => exact ⟨k + 1, by omega, by go_num, by rw [← HS.out], HD.out.add _⟩
      case measure => simp [intOf]; omega
    · obtain rfl : k = C.length := by omega
      go_wp2
      go_ret
      exact ⟨rfl, HD.out⟩
end Go.Proofs.YtgchfijeiggimaaDoor
