/- The walk of LocateRegisters. -/
import Derived.Test.YtoefhhkemljjdaaDoorAl4
import Derived.Test.YtoefhhkemljjdaaDoorRu
import Derived.Test.YtoefhhkemljjdaaDoorRs
namespace Go.Proofs.YtoefhhkemljjdaaDoor
open Go.RowKit
set_option linter.unusedVariables false
set_option linter.unusedSimpArgs false
set_option maxRecDepth 100000 in
set_option maxHeartbeats 4000000 in
theorem lrg_walk (s : List UInt8) (o : Option Addr) (c : Nat) (w : World) (hS : RowIs w o (bytesV s) c) :
    Calls Tryd.prog 4 #[.slice o s.length c] w fun e w' => e = .returned (.bool true) ∧ Below w.heap.size w w' := by
  have h1 := hS.le
  have h2 := hS.cap
  simp only [bytesV_length] at h1
  unfold maxLen at h2
  have HS := Lib.hid hS
  clear hS
  by_cases hl : 40 < s.length
  · have hd : decide ((40 : Int) < (s.length : Int)) = true := decide_eq_true (by omega)
    clear hl
    go_enter Tryd.func4, Tryd.ntmps4
    go_wp2_with fail
    refine (alive4_any _).mono ?_; rintro e w1 ⟨rfl, hb⟩
    have HB := Lib.hid hb
    clear hb
    go_wp2_with fail
    go_ret
    exact ⟨rfl, HB.out⟩
  · have hd : decide ((40 : Int) < (s.length : Int)) = false := decide_eq_false (by omega)
    have HL : Hid (s.length ≤ 40) := Lib.hid (by omega)
    clear hl
    go_enter Tryd.func4, Tryd.ntmps4
    go_wp2_with fail
    refine (alive4_any _).mono ?_; rintro e w1 ⟨rfl, hb⟩
    have HB1 := Lib.hid hb
    clear hb
    go_wp2_with fail
    refine (bytes_any s o c w1 (HS.out.later HB1.out) (by have := HL.out; omega)).mono ?_; rintro e w2 ⟨B, rfl, hb, _, hM⟩
    have HB2 := Lib.hid (Kit.step HB1.out hb)
    have HM2 := Lib.hid hM
    clear hb hM
    go_wp2_with fail
    refine (creg_any s _ _ w2 (HM2.out.row (by have := HL.out; unfold maxLen; omega)) (by have := HL.out; omega)).mono ?_; rintro e w3 ⟨C, L, x, rfl, hx, hb, g1, g2, g3, g4⟩
    obtain ⟨o3, c3, rfl, hx⟩ := hx
    have HB3 := Lib.hid (Kit.step HB2.out hb)
    have HM3 := Lib.hid (HM2.out.later hb)
    have HX3 := Lib.hid hx
    have HSH := Lib.hid (shortest_any s L (co C) o c w3 (HS.out.later HB3.out) g1 g2 g3 (by have := HL.out; omega))
    have HRU : Hid (∀ v, Below w3.heap.size w3 v → Calls Tryd.prog 19 #[.slice o s.length c, .slice o3 (tr C).length c3, .int .i64 L] v fun e w' => e = .returned (.bool true) ∧ Kit.Dn v w') := Lib.hid fun v hv =>
      runs_any s (tr C) L o o3 c c3 v (HS.out.later (Kit.step HB3.out hv)) (HX3.out.later hv) (Gf.Run.cong g1 fun j => (co_tr C j).symm) (Nat.le_trans (tr_le C) g4) g3 (by have := HL.out; omega)
    clear hx hb g1 g2 g3 g4 HM2 HX3
    go_wp2_with fail
    refine HSH.out.mono ?_; rintro e w4 ⟨rfl, hb⟩
    have HB4 := Lib.hid (Kit.step HB3.out hb)
    have HM4 := Lib.hid (HM3.out.later hb)
    have HRU4 := Lib.hid (HRU.out w4 hb)
    clear hb HRU HM3
    go_wp2_with fail
    refine HRU4.out.mono ?_; rintro e w5 ⟨rfl, hd5⟩
    have HB5 := Lib.hid (Kit.step HB4.out hd5.below)
    have HM5 := Lib.hid (HM4.out.later hd5.below)
    clear hd5
    go_wp2_with fail
    refine (kept_any s B o c w5 HM5.out (HS.out.later HB5.out) (by have := HL.out; omega)).mono ?_; rintro e w6 ⟨rfl, hd6⟩
    have HB6 := Lib.hid (Kit.step HB5.out hd6.below)
    clear hd6
    go_wp2_with fail
    go_ret
    exact ⟨rfl, HB6.out⟩
end Go.Proofs.YtoefhhkemljjdaaDoor
