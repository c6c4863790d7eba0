/- Contract of addScaled: a polynomial times a number is added to a sum. -/
import Derived.Test.YtkkmgjjafbjnjaaBf
namespace Go.Proofs.Ytkkmgjjafbjnjaa
open Go.RowKit
set_option linter.unusedVariables false
def AsAt (w : World) (ys z : List UInt8) (a : UInt8) (off g cap : Nat) (i : Value) (wr : World) : Prop :=
  ∃ k : Nat, k ≤ z.length ∧ i = .int .i64 k ∧ Buf wr g cap (mix ys off (z.take k) a) ∧ Only g w wr
theorem u8c (x y : UInt8) : bits .xor .u8 (x.toNat : Int) (y.toNat : Int) = ((x ^^^ y).toNat : Int) := by
  rw [u8_xor_nat _ _ (UInt8.toNat_lt x) (UInt8.toNat_lt y), UInt8.toNat_xor]
theorem dn_drew {w a : World} (h : Kit.Dn w a) : Kit.Dn w a.drew := h.add 1
set_option maxRecDepth 100000 in
theorem addScaled_any (ys z : List UInt8) (a : UInt8) (off g cap T : Nat) (C : Array Value) (o : Option Addr) (c : Nat) (w : World)
    (hB : Buf w g cap ys) (hR : RowIs w o (bytesV z) c) (hT : TabAt w T C) (hTg : T ≠ g) (hne : 0 < (bytesV z).length → ∀ p, o = some p → p.block ≠ g) (hl : off + z.length ≤ ys.length) (m d : Nat) (hm : z.length ≤ m) (hd : m ≤ d) (hdm : d ≤ maxLen) :
    Calls Try.prog 26 #[.pointer (some ⟨T, 0, none⟩), .slice (some ⟨g, off, none⟩) m d, .slice o z.length c, .int .u8 (a.toNat : Int)] w fun e w' => (∃ v, e = .returned v) ∧ Buf w' g cap (mix ys off z a) ∧ Only g w w' := by
  have h1 := hR.le
  have h2 := hR.cap
  simp only [bytesV_length] at h1
  unfold maxLen at h2 hdm
  have hle := hB.le
  unfold maxLen at hle
  have H0 : Hid (z.take z.length = z) := Lib.hid (List.take_length)
  have HB0 : Hid (Buf w g cap (mix ys off (z.take 0) a)) := Lib.hid (by rw [mix_zero]; exact hB)
  have HR := Lib.hid hR
  have HT := Lib.hid hT
  have HN := Lib.hid hne
  clear hB hR hT hne
  go_enter Try.func26, Try.ntmps26
  go_wp2
  go_loopw [8, 9, 12] (fun _ _ i wr => AsAt w ys z a off g cap i wr) (fun _ _ i _ => z.length - (intOf i).toNat)
  case atStart => exact ⟨0, Nat.zero_le _, rfl, HB0.out, Only.refl _ _⟩
  case round =>
    obtain ⟨k, hk, rfl, hb, ho⟩ := hrel
    by_cases hlt : k < z.length
    · have hr := ho.row HR.out HN.out
      obtain ⟨b1, off1, rfl, hb1, hcell⟩ := hr.cells (by simp; omega)
      have hc1 : wr.cell? ⟨b1, off1 + k, none⟩ = some (.int .u8 ((co z k).toNat : Int)) := hcell k _ (bytesV_get z k hlt)
      have hc2 := hb.cell (off + k) (by simp; omega)
      have hf2 := hb.frozen (off + k)
      have HMX := Lib.hid (mix_step ys off z a k hlt hl)
      have mc : ∀ v : World, TabAt v T C → Calls Try.prog 30 #[.pointer (some ⟨T, 0, none⟩), .int .u8 ((co z k).toNat : Int), .int .u8 (a.toNat : Int)] v fun e w' => e = .returned (.int .u8 ((Gf.gm (co z k) a).toNat : Int)) ∧ ∃ n, w' = v.drewN n := by
        intro v hv
        rw [Gf.gm_nat]
        exact tmul_any _ _ (UInt8.toNat_lt _) (UInt8.toNat_lt _) T C v hv
      have ac : ∀ v : World, Calls Try.prog 29 #[.int .u8 ((co (mix ys off (z.take k) a) (off + k)).toNat : Int), .int .u8 ((Gf.gm (co z k) a).toNat : Int)] v fun e w' => e = .returned (.int .u8 ((co (mix ys off (z.take k) a) (off + k) ^^^ Gf.gm (co z k) a).toNat : Int)) ∧ v = w' := by
        intro v
        rw [UInt8.toNat_xor]
        exact add_any _ _ (UInt8.toNat_lt _) (UInt8.toNat_lt _) v
      have HTW := Lib.hid (ho.tab HT.out hTg)
      generalize co (mix ys off (z.take k) a) (off + k) = s at *
      generalize Gf.gm (co z k) a = t at *
      generalize s ^^^ t = r at *
      generalize co z k = x at *
      have hx := UInt8.toNat_lt x
      have hs := UInt8.toNat_lt s
      have ha := UInt8.toNat_lt a
      have HB := Lib.hid hb
      have HO := Lib.hid ho
      have MC := Lib.hid mc
      have AC := Lib.hid ac
      clear hcell hb ho mc ac hr
      have hi0 : (0 : Int) ≤ (k : Int) := by omega
      have hi1 : (k : Int) < (m : Int) := by omega
      go_wp2
      go_region_with (first | (go_at_call 30; refine (MC.out _ (HTW.out.later (dn_drew (Kit.Dn.refl _)).below)).mono ?_; rintro e w' ⟨rfl, n', rfl⟩) | (go_at_call 29; refine (AC.out _).mono ?_; rintro e w' ⟨rfl, rfl⟩))
      all_goals
        go_wp2
        go_roundw
        case rel =>
          have hs := (HB.out.later (Kit.dn' wr (1 + n'))).store (off + k) r
          exact ⟨k + 1, by omega, by go_num, by rw [← HMX.out]; exact hs.1, HO.out.trans ((Only.of_below (Kit.dn' wr (1 + n'))).trans hs.2)⟩
        case measure => simp [intOf]; omega
    · obtain rfl : k = z.length := by omega
      rw [H0.out] at hb
      go_wp2
      go_end0
      exact ⟨⟨_, rfl⟩, hb, ho⟩
end Go.Proofs.Ytkkmgjjafbjnjaa
