/- The document's own check that a register runs. -/
import Derived.Test.YtoefhhkemljjdaaDoorMs
import Derived.Test.YtoefhhkemljjdaaDoorRr
import Derived.Test.YtoefhhkemljjdaaDoorTm
import Derived.Deep.QuietTactic
import Derived.BigQuiet
namespace Go.Proofs.YtoefhhkemljjdaaDoor
open Go.RowKit
set_option linter.unusedVariables false
set_option linter.unusedSimpArgs false
def RuAt (n : Nat) (L : Nat) (w : World) (iv : Value) (wr : World) : Prop := ∃ i : Nat, L ≤ i ∧ i ≤ n ∧ iv = .int .i64 i ∧ Kit.Dn w wr
def RnAt (s p : List UInt8) (L i : Nat) (w : World) (v jv : Value) (wr : World) : Prop :=
  ∃ k : Nat, k ≤ L ∧ jv = .int .i64 ((k + 1 : Nat) : Int) ∧ v = .int .u8 ((Gf.sm (fun j => Gf.gm (co p (j + 1)) (co s (i - (j + 1)))) k).toNat : Int) ∧ Kit.Dn w wr
theorem dn_trans {a b c : World} (h : Kit.Dn a b) (k : Kit.Dn b c) : Kit.Dn a c := by
  obtain ⟨m, rfl⟩ := k
  exact h.add m
theorem run_sum {s p : Nat → UInt8} {L i n : Nat} (h : Gf.Run s n p L) (h1 : L ≤ i) (h2 : i < n) : Gf.sm (fun j => Gf.gm (p (j + 1)) (s (i - (j + 1)))) L = s i := by
  have h3 := h.run i h1 h2
  unfold Gf.dis at h3
  rw [Gf.sm_left, h.one, Gf.one_gm, Nat.sub_zero] at h3
  exact (Gf.xor_eq_zero _ _ h3).symm
set_option maxRecDepth 100000 in
set_option maxHeartbeats 2000000 in
theorem runs_any (s p : List UInt8) (L : Nat) (o o2 : Option Addr) (c c2 : Nat) (w : World) (hS : RowIs w o (bytesV s) c) (hP : RowIs w o2 (bytesV p) c2) (hr : Gf.Run (co s) s.length (co p) L) (hp : p.length ≤ L + 1) (hL : L ≤ s.length) (hl : s.length ≤ 100000) :
    Calls Tryd.prog 19 #[.slice o s.length c, .slice o2 p.length c2, .int .i64 L] w fun e w' => e = .returned (.bool true) ∧ Kit.Dn w w' := by
  have h1 := hS.le
  have h2 := hS.cap
  have h3 := hP.le
  have h4 := hP.cap
  simp only [bytesV_length] at h1 h3
  unfold maxLen at h2 h4
  have hp0 : 0 < p.length := co_lt (i := 0) (by rw [hr.one]; decide)
  obtain ⟨bp, fp, rfl, hbp, hcp⟩ := hP.cells (by simpa using hp0)
  have hc0 : w.cell? ⟨bp, fp, none⟩ = some (.int .u8 1) := by
    have := hcp 0 _ (bytesV_get p 0 hp0)
    rw [show p.getD 0 0 = co p 0 from rfl, hr.one] at this
    exact this
  have HS := Lib.hid hS
  have HP := Lib.hid hP
  have HR := Lib.hid hr
  have hpl : ¬ ((L : Int) + 1 < (p.length : Int)) := by omega
  have hpd : decide ((L : Int) + 1 < (p.length : Int)) = false := decide_eq_false hpl
  have hpn : ((p.length : Int) == 0) = false := beq_false_of_ne (by omega)
  have hLi : (L : Int) ≤ 100000 := by omega
  clear hS hP hr hcp hbp
  go_enter Tryd.func19, Tryd.ntmps19
  go_wp2_with fail
  go_loopw [7] (fun iv wr => RuAt s.length L w iv wr) (fun iv _ => s.length - (intOf iv).toNat)
  case atStart => exact ⟨L, Nat.le_refl _, hL, rfl, Kit.Dn.refl _⟩
  case round =>
    rename World => W1
    obtain ⟨i, hi1, hi2, rfl, hd⟩ := hrel
    have HD := Lib.hid hd
    clear hd
    by_cases hlt : i < s.length
    · have hd1 : decide ((i : Int) < (s.length : Int)) = true := decide_eq_true (by omega)
      go_wp2_with fail
      go_loopw [8, 9] (fun v jv wr => RnAt s p L i W1 v jv wr) (fun _ jv _ => L + 1 - (intOf jv).toNat)
      case atStart => exact ⟨0, Nat.zero_le _, rfl, rfl, Kit.Dn.refl _⟩
      case round =>
        obtain ⟨k, hk, rfl, rfl, hdk⟩ := hrel
        have HDK := Lib.hid (dn_trans HD.out hdk)
        have HDI := Lib.hid hdk
        obtain ⟨j, hj⟩ : ∃ j, k + 1 = j := ⟨_, rfl⟩
        by_cases hkl : k < L
        · have HSW := Lib.hid (HS.out.later HDK.out.below)
          have HPW := Lib.hid (HP.out.later HDK.out.below)
          obtain ⟨bs, fs, rfl, hbs, hcs⟩ := HSW.out.cells (by simp; omega)
          have hcj : wr.cell? ⟨bs, fs + (i - j), none⟩ = some (.int .u8 ((co s (i - j)).toNat : Int)) := hcs (i - j) _ (bytesV_get s (i - j) (by omega))
          have ap : ∀ v : World, Kit.Dn wr v → Calls Tryd.prog 41 #[.slice (some ⟨bp, fp, none⟩) p.length c2, .int .i64 (j : Int)] v fun e w' => e = .returned (.int .u8 ((co p j).toNat : Int)) ∧ w' = v := fun v hv => at_any p j _ c2 v (HPW.out.later hv.below) (by omega)
          have AP := Lib.hid ap
          have HSM : Hid (Gf.sm (fun j => Gf.gm (co p (j + 1)) (co s (i - (j + 1)))) (k + 1) = Gf.sm (fun j => Gf.gm (co p (j + 1)) (co s (i - (j + 1)))) k ^^^ Gf.gm (co p j) (co s (i - j))) := Lib.hid (by rw [← hj]; rfl)
          have hx := u8c (Gf.sm (fun j => Gf.gm (co p (j + 1)) (co s (i - (j + 1)))) k) (Gf.gm (co p j) (co s (i - j)))
          have MC : Hid (∀ v : World, Calls Tryd.prog 43 #[.int .u8 ((co p j).toNat : Int), .int .u8 ((co s (i - j)).toNat : Int)] v fun e w' => e = .returned (.int .u8 ((Gf.gm (co p j) (co s (i - j))).toNat : Int)) ∧ w' = v) := Lib.hid fun v => rmul_u8 _ _ v
          have HJ := Lib.hid hj
          have hj1 : j ≤ L := by omega
          have hji : j ≤ i := by omega
          clear hcs ap hdk hj
          generalize Gf.gm (co p j) (co s (i - j)) = t at *
          generalize Gf.sm (fun j => Gf.gm (co p (j + 1)) (co s (i - (j + 1)))) k = u at *
          generalize co p j = x at *
          generalize co s (i - j) = y at *
          generalize u ^^^ t = q at *
          have hul := UInt8.toNat_lt u
          have hxl := UInt8.toNat_lt x
          have hyl := UInt8.toNat_lt y
          have htl := UInt8.toNat_lt t
          obtain ⟨r, hr⟩ : ∃ r, i - j = r := ⟨_, rfl⟩
          rw [hr] at hcj
          have hwr : IntKind.i64.wrap ((i : Int) - (j : Int)) = (r : Int) := by rw [IntKind.wrap_i64]; omega
          have hr0 : (0 : Int) ≤ (r : Int) := by omega
          have hr1 : (r : Int) < (s.length : Int) := by omega
          have hjd : decide ((j : Int) ≤ (L : Int)) = true := decide_eq_true (by omega)
          rw [show ((k + 1 : Nat) : Int) = (j : Int) by have := HJ.out; omega]
          clear hr
          go_wp2_with fail
          go_quiet ((first | (go_at_call 41; exact Calls.quiet_of_same (AP.out _ (by first | exact ⟨_, rfl⟩ | assumption))) | (go_at_call 43; exact Calls.quiet_of_same (MC.out _))))
          go_wp2
          go_roundw
          case rel => exact ⟨k + 1, by omega, by have := HJ.out; go_num, by rw [HSM.out], HDI.out.add _⟩
          case measure => simp [intOf]; omega
        · obtain rfl : k = L := by omega
          have HSW := Lib.hid (HS.out.later HDK.out.below)
          obtain ⟨bs, fs, rfl, hbs, hcs⟩ := HSW.out.cells (by simp; omega)
          have hci : wr.cell? ⟨bs, fs + i, none⟩ = some (.int .u8 ((co s i).toNat : Int)) := hcs i _ (bytesV_get s i hlt)
          rw [run_sum HR.out hi1 hlt]
          have hyl := UInt8.toNat_lt (co s i)
          have hjd : decide ((((k + 1 : Nat) : Int)) ≤ (k : Int)) = false := decide_eq_false (by omega)
          clear hcs hdk
          generalize co s i = y at *
          go_wp2_with fail
          go_roundw
          case rel => exact ⟨i + 1, by omega, by omega, by go_num, HDK.out⟩
          case measure => simp [intOf]; omega
    · obtain rfl : i = s.length := by omega
      go_wp2_with fail
      go_ret
      exact ⟨rfl, HD.out⟩
end Go.Proofs.YtoefhhkemljjdaaDoor
