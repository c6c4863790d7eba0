/- The code's Register. -/
import Derived.Test.YtoefhhkemljjdaaDoorRe
namespace Go.Proofs.YtoefhhkemljjdaaDoor
open Go.RowKit
set_option linter.unusedVariables false
set_option linter.unusedSimpArgs false
def RxAt (s : List UInt8) (b T : Nat) (Ct : Array Value) (w : World) (iv : Value) (wr : World) : Prop :=
  ∃ k : Nat, k ≤ s.length ∧ iv = .int .i64 k ∧ (∃ C L B bw x oC cC oB cB, RgM b T Ct C L B bw x oC cC oB cB wr ∧ Gf.Reg (co s) k C L B bw x) ∧ Below w.heap.size w wr
def RegTo (s : List UInt8) (w : World) (e : Ending) (w' : World) : Prop :=
  ∃ C L x, e = .returned (.tuple #[x, .int .i64 ((L : Nat) : Int)]) ∧ RowV (tr C) x w' ∧ Below w.heap.size w w' ∧ Gf.Run (co s) s.length (co C) L ∧ Gf.Least (co s) s.length L ∧ L ≤ s.length ∧ C.length ≤ L + 1
set_option maxRecDepth 100000 in
set_option maxHeartbeats 4000000 in
theorem creg_any (s : List UInt8) (o : Option Addr) (c : Nat) (w : World) (hS : RowIs w o (bytesV s) c) (hl : s.length ≤ 900) :
    Calls Tryd.prog 17 #[.slice o s.length c] w (RegTo s w) := by
  have h1 := hS.le
  have h2 := hS.cap
  simp only [bytesV_length] at h1
  unfold maxLen at h2
  have HS := Lib.hid hS
  clear hS
  go_enter Tryd.func17, Tryd.ntmps17
  go_wp2_with fail
  refine (register0_any _).mono ?_; rintro e w1 ⟨b, T, Ct, rfl, hb, hm, hb1⟩
  have HM := Lib.hid hm
  have HB := Lib.hid hb
  have HB1 := Lib.hid hb1
  clear hm hb hb1
  go_wp2_with fail
  go_loopw [6, 13] (fun _ i wr => RxAt s b T Ct w i wr) (fun _ i _ => s.length - (intOf i).toNat)
  case atStart => exact ⟨0, Nat.zero_le _, rfl, ⟨[1], 0, [1], 1, 0, _, _, _, _, HM.out, Gf.Reg.first _⟩, HB1.out⟩
  case round =>
    obtain ⟨k, hk, rfl, ⟨C, L, B, bw, x, oC, cC, oB, cB, hm, hg⟩, hb⟩ := hrel
    by_cases hlt : k < s.length
    · have hlen : (s.take (k + 1)).length = k + 1 := by simp; omega
      have hR : RowIs wr o (bytesV (s.take (k + 1))) c := (HS.out.later hb).take (k + 1)
      have hRf : ∀ p, o = some p → ¬ FM b p.block := fun p hp => by
        obtain ⟨b1, off1, h1, h2, _⟩ := HS.out.cells (by simp; omega)
        rw [h1] at hp
        cases hp
        have := HB.out
        unfold FM; dsimp only; omega
      have hf := feed_any b T Ct s k C L B bw x oC cC oB cB o c wr hm hg hlt hl hR hRf
      rw [hlen] at hf
      obtain ⟨j, hj⟩ : ∃ j, k + 1 = j := ⟨_, rfl⟩
      rw [hj] at hf
      have hw1 : IntKind.i64.wrap ((k : Int) + 1) = (j : Int) := by rw [IntKind.wrap_i64]; omega
      have hj0 : (0 : Int) ≤ (j : Int) := by omega
      have hjc : (j : Int) ≤ (c : Int) := by omega
      have hki : (k : Int) < (s.length : Int) := by omega
      have HF := Lib.hid hf
      have HBW := Lib.hid hb
      have HJ := Lib.hid hj
      clear hf hb hm hg hR hRf hlen hj
      go_wp2_with fail
      refine HF.out.mono ?_; rintro e w2 ⟨⟨v, rfl⟩, C2, L2, B2, bw2, x2, oC2, cC2, oB2, cB2, hm2, hg2, hbt⟩
      have hb2 : Below w.heap.size w w2 := HBW.out.trans (hbt.below (fun k hk => by have := HB.out; unfold FM at hk; omega) HBW.out.size HBW.out.size)
      have HM2 := Lib.hid hm2
      have HG2 := Lib.hid hg2
      have HB2 := Lib.hid hb2
      clear hm2 hg2 hbt hb2 HF
      go_wp2_with fail
      go_roundw
      case rel => exact ⟨k + 1, by omega, by have := HJ.out; go_num, ⟨C2, L2, B2, bw2, x2, oC2, cC2, oB2, cB2, HM2.out, HG2.out⟩, HB2.out⟩
      case measure => have := HJ.out; simp [intOf]; omega
    · obtain rfl : k = s.length := by omega
      have hcl := hg.len
      have hle := hg.le
      have HT := Lib.hid (told_any b L C oC cC wr hm.box.qn hm.box.ql hm.rC (by omega))
      have HG := Lib.hid hg
      have HBW := Lib.hid hb
      clear hm hg hb
      go_wp2_with fail
      refine HT.out.mono ?_; rintro e w2 ⟨y, rfl, hy, hb⟩
      have HY := Lib.hid hy
      have HB2 := Lib.hid (Kit.step HBW.out hb)
      clear hb hy
      go_wp2_with fail
      go_ret2
      exact ⟨C, L, y, rfl, HY.out, HB2.out, HG.out.run, HG.out.least, hle, hcl⟩
end Go.Proofs.YtoefhhkemljjdaaDoor
