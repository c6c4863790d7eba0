/- A table in memory, and its products. -/
import Derived.Test.YtkkmgjjafbjnjaaFm
namespace Go.Proofs.Ytkkmgjjafbjnjaa
open Go.RowKit
set_option linter.unusedVariables false
namespace Gf
theorem Tab.logAt {C : Array Value} (h : Tab C) (a : Nat) (h0 : a ≠ 0) (ha : a < 256) : C[510 + a]? = some (.int .i64 (lg a : Nat)) := by
  obtain ⟨h1, h2⟩ := ex_lg a h0 ha
  have := h.log (lg a) h2
  rw [h1] at this; exact this
theorem mul_lg (a b : Nat) (h0 : a ≠ 0) (ha : a < 256) (g0 : b ≠ 0) (hb : b < 256) : ex (lg a + lg b) = mul a b := by
  rw [← mul_ex_ex, (ex_lg a h0 ha).1, (ex_lg b g0 hb).1]
end Gf
/-- a table lies at the head of block B -/
structure TabAt (W : World) (B : Nat) (C : Array Value) : Prop where
  block : W.heap[B]? = some (.cells C 46 (0, 0))
  tab : Gf.Tab C
theorem TabAt.cell {W : World} {B : Nat} {C : Array Value} (h : TabAt W B C) (i : Nat) : W.cell? ⟨B, i, none⟩ = C[i]? := by
  unfold World.cell?; rw [h.block]; rfl
theorem TabAt.later {W W' : World} {B : Nat} {C : Array Value} (h : TabAt W B C) (hb : Below W.heap.size W W') : TabAt W' B C :=
  ⟨by rw [hb.block B (Array.getElem?_eq_some_iff.1 h.block).1]; exact h.block, h.tab⟩
theorem TabAt.made {W : World} {C : Array Value} {n : Nat} (h : Gf.Tab C) : TabAt ((W.alloc (.cells C 46)).drewN n) W.heap.size C := by
  refine ⟨?_, h⟩
  show (W.alloc (.cells C 46)).heap[W.heap.size]? = _
  exact (MapKept.heap_alloc W _).1

theorem tmul_any (a b : Nat) (ha : a < 256) (hb : b < 256) (B : Nat) (C : Array Value) (w : World) (hT : TabAt w B C) :
    Calls Try.prog 30 #[.pointer (some ⟨B, 0, none⟩), .int .u8 (a : Int), .int .u8 (b : Int)] w fun e w' => e = .returned (.int .u8 (Gf.mul a b : Nat)) ∧ ∃ n, w' = w.drewN n := by
  by_cases h0 : a = 0
  · have t1 : ((a : Int) == 0) = true := by simpa using h0
    have HM : Hid (Gf.mul a b = 0) := Lib.hid (by rw [h0, Gf.mul_zero_left])
    clear h0 hT
    go_enter Try.func30, Try.ntmps30
    go_wp2
    go_ret
    exact ⟨ret_int (by rw [HM.out]; rfl), 0, rfl⟩
  · by_cases g0 : b = 0
    · have t1 : ((a : Int) == 0) = false := by simpa using h0
      have t2 : ((b : Int) == 0) = true := by simpa using g0
      have HM : Hid (Gf.mul a b = 0) := Lib.hid (by rw [g0, Gf.mul_zero_right])
      clear h0 g0 hT
      go_enter Try.func30, Try.ntmps30
      go_wp2
      go_ret
      exact ⟨ret_int (by rw [HM.out]; rfl), 0, rfl⟩
    · have t1 : ((a : Int) == 0) = false := by simpa using h0
      have t2 : ((b : Int) == 0) = false := by simpa using g0
      have la := (Gf.ex_lg a h0 ha).2
      have lb := (Gf.ex_lg b g0 hb).2
      have HM := Lib.hid (Gf.mul_lg a b h0 ha g0 hb)
      have c1 : w.cell? ⟨B, 510 + a, none⟩ = some (.int .i64 (Gf.lg a : Nat)) := by rw [hT.cell]; exact hT.tab.logAt a h0 ha
      have c2 : w.cell? ⟨B, 510 + b, none⟩ = some (.int .i64 (Gf.lg b : Nat)) := by rw [hT.cell]; exact hT.tab.logAt b g0 hb
      have c3 : w.cell? ⟨B, Gf.lg a + Gf.lg b, none⟩ = some (.int .u8 (Gf.ex (Gf.lg a + Gf.lg b) : Nat)) := by rw [hT.cell]; exact hT.tab.exp _ (by omega)
      clear h0 g0 hT
      go_enter Try.func30, Try.ntmps30
      go_wp2
      go_quiet (fail)
      go_wp2
      go_ret
      exact ⟨ret_int (by rw [HM.out]), _, rfl⟩
end Go.Proofs.Ytkkmgjjafbjnjaa
