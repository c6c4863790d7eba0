/- Contract of a table's Div. -/
import Derived.Test.YthbmbobjalgafaaDoorTb
import Derived.Test.YthbmbobjalgafaaDoorIv
namespace Go.Proofs.YthbmbobjalgafaaDoor
open Go.RowKit
set_option linter.unusedVariables false
namespace Gf
theorem div_lg (a b : Nat) (h0 : a ≠ 0) (ha : a < 256) (g0 : b ≠ 0) (hb : b < 256) : ex (lg a + 255 - lg b) = mul a (inv b) := by
  obtain ⟨h1, h2⟩ := ex_lg a h0 ha
  obtain ⟨h3, h4⟩ := ex_lg b g0 hb
  have e : inv b = ex (lg b * 254) := by
    unfold inv
    generalize lg b = n at *
    subst h3
    rw [pw_ex]
  rw [e]
  generalize lg b = m at *
  generalize lg a = n at *
  subst h1
  rw [mul_ex_ex, ex_inj]
  omega
end Gf
theorem tdiv_zero (a b : Nat) (h : a = 0 ∨ b = 0) (B : Nat) (w : World) :
    Calls Tryd.prog 20 #[.pointer (some ⟨B, 0, none⟩), .int .u8 (a : Int), .int .u8 (b : Int)] w fun e w' => e = .returned (.int .u8 0) ∧ ∃ n, w' = w.drewN n := by
  by_cases h0 : a = 0
  · have t1 : ((a : Int) == 0) = true := by simpa using h0
    clear h0 h
    go_enter Tryd.func20, Tryd.ntmps20
    go_wp2
    go_ret
    exact ⟨rfl, 0, rfl⟩
  · have t1 : ((a : Int) == 0) = false := by simpa using h0
    have t2 : ((b : Int) == 0) = true := by have : b = 0 := by omega
                                            simpa using this
    clear h0 h
    go_enter Tryd.func20, Tryd.ntmps20
    go_wp2
    go_ret
    exact ⟨rfl, 0, rfl⟩
theorem tdiv_any (a b : Nat) (ha : a < 256) (g0 : b ≠ 0) (hb : b < 256) (B : Nat) (C : Array Value) (w : World) (hT : TabAt w B C) :
    Calls Tryd.prog 20 #[.pointer (some ⟨B, 0, none⟩), .int .u8 (a : Int), .int .u8 (b : Int)] w fun e w' => e = .returned (.int .u8 (Gf.mul a (Gf.inv b) : Nat)) ∧ ∃ n, w' = w.drewN n := by
  by_cases h0 : a = 0
  · have h := tdiv_zero a b (Or.inl h0) B w
    have e : Gf.mul a (Gf.inv b) = 0 := by rw [h0, Gf.mul_zero_left]
    rw [e]; exact h
  · have t1 : ((a : Int) == 0) = false := by simpa using h0
    have t2 : ((b : Int) == 0) = false := by simpa using g0
    have la := (Gf.ex_lg a h0 ha).2
    have lb := (Gf.ex_lg b g0 hb).2
    have HM := Lib.hid (Gf.div_lg a b h0 ha g0 hb)
    have c1 : w.cell? ⟨B, 510 + a, none⟩ = some (.int .i64 (Gf.lg a : Nat)) := by rw [hT.cell]; exact hT.tab.logAt a h0 ha
    have c2 : w.cell? ⟨B, 510 + b, none⟩ = some (.int .i64 (Gf.lg b : Nat)) := by rw [hT.cell]; exact hT.tab.logAt b g0 hb
    have hi0 : 0 ≤ (Gf.lg a : Int) - Gf.lg b + 255 := by omega
    have hi1 : (Gf.lg a : Int) - Gf.lg b + 255 < 510 := by omega
    have hi2 : ((Gf.lg a : Int) - Gf.lg b + 255).toNat = Gf.lg a + 255 - Gf.lg b := by omega
    have c3 : w.cell? ⟨B, ((Gf.lg a : Int) - Gf.lg b + 255).toNat, none⟩ = some (.int .u8 (Gf.ex (Gf.lg a + 255 - Gf.lg b) : Nat)) := by rw [hi2, hT.cell]; exact hT.tab.exp _ (by omega)
    clear h0 g0 hT hi2
    go_enter Tryd.func20, Tryd.ntmps20
    go_wp2
    go_quiet (fail)
    go_wp2
    go_ret
    exact ⟨ret_int (by rw [HM.out]), _, rfl⟩
end Go.Proofs.YthbmbobjalgafaaDoor
