/- The code's register: what is off, the mended polynomial. -/
import Derived.Test.YtoefhhkemljjdaaDoorRk
import Derived.Test.YtoefhhkemljjdaaDoorMu
import Derived.Test.YtoefhhkemljjdaaDoorAp
import Derived.BigQuiet
import Derived.StillTailTactics
namespace Go.Proofs.YtoefhhkemljjdaaDoor
open Go.RowKit
set_option linter.unusedVariables false
set_option linter.unusedSimpArgs false
def offS (C r : List UInt8) (k : Nat) : UInt8 := Gf.sm (fun j => Gf.gm (co C j) (co r (r.length - 1 - j))) k
def OffAt (C r : List UInt8) (w : World) (s iv : Value) (wr : World) : Prop :=
  ∃ k : Nat, k ≤ C.length ∧ iv = .int .i64 k ∧ s = .int .u8 ((offS C r k).toNat : Int) ∧ Kit.Dn w wr
set_option maxRecDepth 100000 in
set_option maxHeartbeats 2000000 in
theorem off_any (b T : Nat) (Ct : Array Value) (C r : List UInt8) (oC oR : Option Addr) (cC cR : Nat) (w : World) (hT : TabAt w T Ct) (hqt : Boxed w b 82 (.pointer (some ⟨T, 0, none⟩)))
    (hqn : Boxed w (b + 2) 26 (.slice oC C.length cC)) (hC : RowIs w oC (bytesV C) cC) (hR : RowIs w oR (bytesV r) cR) (hle : C.length ≤ r.length) :
    Calls Tryd.prog 61 #[.slice oR r.length cR, .pointer (some ⟨b + 2, 0, none⟩), .pointer (some ⟨b, 0, none⟩)] w fun e w' => e = .returned (.int .u8 ((offS C r C.length).toNat : Int)) ∧ Kit.Dn w w' := by
  have h1 := hC.le
  have h2 := hC.cap
  have h3 := hR.le
  have h4 := hR.cap
  simp only [bytesV_length] at h1 h3
  unfold maxLen at h2 h4
  have HT := Lib.hid hT
  have HQT := Lib.hid hqt
  have hcn := hqn.cell
  have HC := Lib.hid hC
  have HR := Lib.hid hR
  clear hT hqt hqn hC hR
  go_enter Tryd.func61, Tryd.ntmps61
  go_wp2_with fail
  clear hcn
  go_loopw [5, 6, 7, 10] (fun s _ _ i wr => OffAt C r w s i wr) (fun _ _ _ i _ => C.length - (intOf i).toNat)
  case atStart => exact ⟨0, Nat.zero_le _, rfl, rfl, Kit.Dn.refl _⟩
  case round =>
    obtain ⟨k, hk, rfl, rfl, hd⟩ := hrel
    have HD := Lib.hid hd
    clear hd
    by_cases hlt : k < C.length
    · obtain ⟨b1, off1, rfl, hb1, hcell⟩ := (HC.out.later HD.out.below).cells (by simp; omega)
      obtain ⟨b2, off2, rfl, hb2, hcell2⟩ := (HR.out.later HD.out.below).cells (by simp; omega)
      have hc1 : wr.cell? ⟨b1, off1 + k, none⟩ = some (.int .u8 ((co C k).toNat : Int)) := hcell k _ (bytesV_get C k hlt)
      obtain ⟨m, hm⟩ : ∃ m, r.length - 1 - k = m := ⟨_, rfl⟩
      have hc2 : wr.cell? ⟨b2, off2 + m, none⟩ = some (.int .u8 ((co r m).toNat : Int)) := hcell2 m _ (bytesV_get r m (by omega))
      have hct := (boxed_later HQT.out HD.out.below).cell
      have HS : Hid (offS C r k ^^^ Gf.gm (co C k) (co r m) = offS C r (k + 1)) := Lib.hid (by rw [← hm]; rfl)
      have hw1 : IntKind.i64.wrap ((r.length : Int) - 1) = (r.length : Int) - 1 := by rw [IntKind.wrap_i64]; omega
      have hw2 : IntKind.i64.wrap ((r.length : Int) - 1 - (k : Int)) = (m : Int) := by rw [IntKind.wrap_i64]; omega
      have hm0 : (0 : Int) ≤ (m : Int) := by omega
      have hm1 : (m : Int) < (r.length : Int) := by omega
      have HM := Lib.hid hm
      generalize offS C r k = s at *
      generalize co C k = x at *
      generalize co r m = y at *
      have hx := UInt8.toNat_lt x
      have hs := UInt8.toNat_lt s
      have hy := UInt8.toNat_lt y
      have MC : Hid (∀ n, Calls Tryd.prog 63 #[.pointer (some ⟨T, 0, none⟩), .int .u8 (x.toNat : Int), .int .u8 (y.toNat : Int)] (wr.drewN n) fun e w' => e = .returned (.int .u8 ((Gf.gm x y).toNat : Int)) ∧ ∃ m, w' = (wr.drewN n).drewN m) := Lib.hid fun n => tmul_dn x y T Ct _ ((HT.out.later HD.out.below).later (Kit.dn' _ _))
      generalize Gf.gm x y = u at *
      have hu := UInt8.toNat_lt u
      have AC : Hid (∀ v : World, Calls Tryd.prog 62 #[.int .u8 (s.toNat : Int), .int .u8 (u.toNat : Int)] v fun e w' => e = .returned (.int .u8 ((s ^^^ u).toNat : Int)) ∧ w' = v) := Lib.hid fun v => add_u8 s u v
      generalize hq : s ^^^ u = q at *
      have HQ := Lib.hid hq
      clear hcell hcell2 hm hq
      go_wp2_with fail
      go_quiet ((first | (go_at_call 63; exact Calls.quiet_of (MC.out _)) | (go_at_call 62; exact Calls.quiet_of_same (AC.out _))))
      go_wp2
      go_roundw
      case rel => exact ⟨k + 1, by omega, by go_num, by rw [← HS.out], HD.out.add _⟩
      case measure => simp [intOf]; omega
    · obtain rfl : k = C.length := by omega
      go_wp2
      go_ret
      exact ⟨rfl, HD.out⟩
end Go.Proofs.YtoefhhkemljjdaaDoor
