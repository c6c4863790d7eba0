/- Contracts of the document's value and sum, and of Zeros. -/
import Derived.Test.YtbmafnippbjpnaaRm
namespace Go.Proofs.Ytbmafnippbjpnaa
open Go.RowKit
set_option linter.unusedVariables false
set_option linter.unusedSimpArgs false
def ReAt (z : List UInt8) (x : UInt8) (out pw i : Value) : Prop :=
  ∃ k : Nat, k ≤ z.length ∧ i = .int .i64 k ∧ out = .int .u8 ((Gf.ev k (co z) x).toNat : Int) ∧ pw = .int .u8 ((Gf.px x k).toNat : Int)
theorem reval_any (z : List UInt8) (x : UInt8) (o : Option Addr) (c : Nat) (w : World) (hP : RowIs w o (bytesV z) c) :
    Calls Try.prog 21 #[.slice o z.length c, .int .u8 (x.toNat : Int)] w fun e w' => e = .returned (.int .u8 ((evL z x).toNat : Int)) ∧ w' = w := by
  have h1 := hP.le
  have h2 := hP.cap
  simp only [bytesV_length] at h1
  unfold maxLen at h2
  have HP := Lib.hid hP
  have hx := UInt8.toNat_lt x
  clear hP
  go_enter Try.func21, Try.ntmps21
  go_wp2
  go_loop [5, 6, 8, 11] (fun out pw _ i => ReAt z x out pw i) (fun _ _ _ i => z.length - (intOf i).toNat)
  case atStart => exact ⟨0, Nat.zero_le _, rfl, rfl, rfl⟩
  case round =>
    obtain ⟨k, hk, rfl, rfl, rfl⟩ := hrel
    by_cases hlt : k < z.length
    · obtain ⟨b1, off1, rfl, hb1, hcell⟩ := HP.out.cells (by simp; omega)
      have hc1 : w.cell? ⟨b1, off1 + k, none⟩ = some (.int .u8 ((co z k).toNat : Int)) := hcell k _ (bytesV_get z k hlt)
      have HE : Hid (Gf.ev (k + 1) (co z) x = Gf.ev k (co z) x ^^^ Gf.gm (co z k) (Gf.px x k)) := Lib.hid rfl
      have HX : Hid (Gf.px x (k + 1) = Gf.gm (Gf.px x k) x) := Lib.hid rfl
      have hxr := u8c (Gf.ev k (co z) x) (Gf.gm (co z k) (Gf.px x k))
      have M1 : Hid (∀ v : World, Calls Try.prog 27 #[.int .u8 ((co z k).toNat : Int), .int .u8 ((Gf.px x k).toNat : Int)] v fun e w' => e = .returned (.int .u8 ((Gf.gm (co z k) (Gf.px x k)).toNat : Int)) ∧ w' = v) := Lib.hid fun v => rmul_u8 _ _ v
      have M2 : Hid (∀ v : World, Calls Try.prog 27 #[.int .u8 ((Gf.px x k).toNat : Int), .int .u8 (x.toNat : Int)] v fun e w' => e = .returned (.int .u8 ((Gf.px x (k + 1)).toNat : Int)) ∧ w' = v) := Lib.hid fun v => by rw [HX.out]; exact rmul_u8 _ _ v
      rw [← HE.out] at hxr
      clear HE HX
      generalize Gf.gm (co z k) (Gf.px x k) = t at *
      generalize co z k = a at *
      have ha := UInt8.toNat_lt a
      have ht := UInt8.toNat_lt t
      have hs := UInt8.toNat_lt (Gf.ev k (co z) x)
      have hp := UInt8.toNat_lt (Gf.px x k)
      clear hcell
      go_wp2_with fail
      refine (M1.out _).mono ?_; rintro e w' ⟨rfl, rfl⟩
      go_wp2_with fail
      refine (M2.out _).mono ?_; rintro e w' ⟨rfl, rfl⟩
      go_wp2_with fail
      go_round
      case rel => exact ⟨k + 1, by omega, by go_num, rfl, rfl⟩
      case measure => simp [intOf]; omega
    · obtain rfl : k = z.length := by omega
      go_wp2
      go_ret
      exact ⟨rfl, rfl⟩
end Go.Proofs.Ytbmafnippbjpnaa
