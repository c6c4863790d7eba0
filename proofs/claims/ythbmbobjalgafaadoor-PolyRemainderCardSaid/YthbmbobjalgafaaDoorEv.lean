/- Contracts of value and Eval. -/
import Derived.Test.YthbmbobjalgafaaDoorMa
namespace Go.Proofs.YthbmbobjalgafaaDoor
open Go.RowKit
set_option linter.unusedVariables false
def HorAt (z : List UInt8) (x : UInt8) (w : World) (s i : Value) (wr : World) : Prop :=
  ∃ k : Nat, k ≤ z.length ∧ i = .int .i64 ((z.length : Int) - k - 1) ∧ s = .int .u8 ((Gf.horner (co z) x k (z.length - k)).toNat : Int) ∧ Kit.Dn w wr
theorem tmul_dn (x y : UInt8) (B : Nat) (C : Array Value) (v : World) (hT : TabAt v B C) :
    Calls Tryd.prog 33 #[.pointer (some ⟨B, 0, none⟩), .int .u8 (x.toNat : Int), .int .u8 (y.toNat : Int)] v fun e w' => e = .returned (.int .u8 ((Gf.gm x y).toNat : Int)) ∧ ∃ n, w' = v.drewN n := by
  rw [Gf.gm_nat]; exact tmul_any _ _ (UInt8.toNat_lt _) (UInt8.toNat_lt _) B C v hT
theorem add_u8 (x y : UInt8) (v : World) : Calls Tryd.prog 26 #[.int .u8 (x.toNat : Int), .int .u8 (y.toNat : Int)] v fun e w' => e = .returned (.int .u8 ((x ^^^ y).toNat : Int)) ∧ w' = v := by
  rw [UInt8.toNat_xor]; exact (add_any _ _ (UInt8.toNat_lt _) (UInt8.toNat_lt _) v).mono fun _ _ h => ⟨h.1, h.2.symm⟩
set_option maxHeartbeats 1000000 in
theorem value_any (z : List UInt8) (x : UInt8) (T : Nat) (C : Array Value) (o : Option Addr) (c : Nat) (w : World) (hR : RowIs w o (bytesV z) c) (hT : TabAt w T C) :
    Calls Tryd.prog 25 #[.pointer (some ⟨T, 0, none⟩), .slice o z.length c, .int .u8 (x.toNat : Int)] w fun e w' => e = .returned (.int .u8 ((evL z x).toNat : Int)) ∧ Kit.Dn w w' := by
  have h1 := hR.le
  have h2 := hR.cap
  simp only [bytesV_length] at h1
  unfold maxLen at h2
  have HR := Lib.hid hR
  have HT := Lib.hid hT
  clear hR hT
  go_enter Tryd.func25, Tryd.ntmps25
  go_wp2
  go_loopw [7, 8] (fun s i wr => HorAt z x w s i wr) (fun _ i _ => (intOf i + 1).toNat)
  case atStart => exact ⟨0, Nat.zero_le _, by go_num, rfl, Kit.Dn.refl _⟩
  case round =>
    obtain ⟨k, hk, rfl, rfl, hd⟩ := hrel
    have HD := Lib.hid hd
    clear hd
    by_cases hlt : k < z.length
    · obtain ⟨i, hi⟩ : ∃ i, i = z.length - k - 1 := ⟨_, rfl⟩
      have hii : ((z.length : Int) - k - 1) = (i : Int) := by omega
      have hil : i < z.length := by omega
      obtain ⟨b1, off1, rfl, hb1, hcell⟩ := (HR.out.later HD.out.below).cells (by simp; omega)
      have hc1 : wr.cell? ⟨b1, off1 + i, none⟩ = some (.int .u8 ((co z i).toNat : Int)) := hcell i _ (bytesV_get z i hil)
      have HH : Hid (Gf.gm (Gf.horner (co z) x k (z.length - k)) x ^^^ co z i = Gf.horner (co z) x (k + 1) (z.length - (k + 1))) := Lib.hid (by
        rw [Gf.horner, show z.length - (k + 1) + 1 = z.length - k by omega, show z.length - (k + 1) = i by omega])
      generalize Gf.horner (co z) x k (z.length - k) = s at *
      generalize co z i = t at *
      have hx := UInt8.toNat_lt x
      have hs := UInt8.toNat_lt s
      have ht := UInt8.toNat_lt t
      have hu := UInt8.toNat_lt (Gf.gm s x)
      have MC : Hid (∀ n, Calls Tryd.prog 33 #[.pointer (some ⟨T, 0, none⟩), .int .u8 (s.toNat : Int), .int .u8 (x.toNat : Int)] (wr.drewN n) fun e w' => e = .returned (.int .u8 ((Gf.gm s x).toNat : Int)) ∧ ∃ m, w' = (wr.drewN n).drewN m) := Lib.hid fun n => tmul_dn s x T C _ ((HT.out.later HD.out.below).later (Kit.dn' _ _))
      generalize hg : Gf.gm s x = u at *
      have AC : Hid (∀ v : World, Calls Tryd.prog 26 #[.int .u8 (u.toNat : Int), .int .u8 (t.toNat : Int)] v fun e w' => e = .returned (.int .u8 ((u ^^^ t).toNat : Int)) ∧ w' = v) := Lib.hid fun v => add_u8 u t v
      generalize hr : u ^^^ t = r at *
      have HG := Lib.hid hg
      have HE := Lib.hid hr
      clear hcell hg hr
      rw [hii]
      have HI := Lib.hid hii
      have HJ := Lib.hid hi
      clear hi hii
      go_wp2
      go_quiet ((first | (go_at_call 33; exact Calls.quiet_of (MC.out _)) | (go_at_call 26; exact Calls.quiet_of_same (AC.out _))))
      go_wp2
      go_roundw
      case rel =>
        have := HI.out
        exact ⟨k + 1, by omega, by go_num, by rw [← HH.out], HD.out.add _⟩
      case measure => simp [intOf]
    · obtain rfl : k = z.length := by omega
      have HE : Hid (Gf.horner (co z) x z.length (z.length - z.length) = evL z x) := Lib.hid (by
        rw [Nat.sub_self, Gf.horner_ev]; unfold evL; exact Gf.ev_congr fun i _ => by rw [Nat.zero_add])
      rw [show ((z.length : Int) - z.length - 1) = -1 by omega]
      go_wp2
      go_ret
      exact ⟨ret_int (by rw [HE.out]), HD.out⟩
theorem eval_any (z : List UInt8) (x : UInt8) (o : Option Addr) (c : Nat) (w : World) (hR : RowIs w o (bytesV z) c) :
    Calls Tryd.prog 11 #[.slice o z.length c, .int .u8 (x.toNat : Int)] w fun e w' => e = .returned (.int .u8 ((evL z x).toNat : Int)) ∧ Below w.heap.size w w' := by
  have HR := Lib.hid hR
  have hx := UInt8.toNat_lt x
  clear hR
  go_enter Tryd.func11, Tryd.ntmps11
  go_wp2_with fail
  refine (make_any _).mono ?_; rintro e w1 ⟨n, C, hC, rfl, hw1⟩
  have hT1 : TabAt w1 w.heap.size C := by rw [hw1]; exact TabAt.made hC
  have hb1 : Below w.heap.size w w1 := by rw [hw1]; exact made_below
  have HB1 := Lib.hid hb1
  have HV := Lib.hid (value_any z x w.heap.size C o c w1 (HR.out.later hb1) hT1)
  clear hC hT1 hb1 hw1
  go_wp2_with fail
  refine HV.out.mono ?_; rintro e w2 ⟨rfl, hd⟩
  have HB2 := Lib.hid (Kit.step HB1.out hd.below)
  clear hd HV
  go_wp2_with fail
  go_ret
  exact ⟨rfl, HB2.out⟩
end Go.Proofs.YthbmbobjalgafaaDoor
