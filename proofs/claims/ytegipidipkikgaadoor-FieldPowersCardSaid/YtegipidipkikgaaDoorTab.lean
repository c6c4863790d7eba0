/- Contracts of a table's methods. -/
import Derived.Test.YtegipidipkikgaaDoorInv
namespace Go.Proofs.YtegipidipkikgaaDoor
open Go.RowKit
set_option linter.unusedVariables false
namespace Gf
theorem Tab.logAt {C : Array Value} (h : Tab C) (a : Nat) (h0 : a ≠ 0) (ha : a < 256) : C[510 + a]? = some (.int .i64 (lg a : Nat)) := by
  obtain ⟨h1, h2⟩ := ex_lg a h0 ha
  have := h.log (lg a) h2
  rw [h1] at this; exact this
theorem mul_lg (a b : Nat) (h0 : a ≠ 0) (ha : a < 256) (g0 : b ≠ 0) (hb : b < 256) : ex (lg a + lg b) = mul a b := by
  rw [← mul_ex_ex, (ex_lg a h0 ha).1, (ex_lg b g0 hb).1]
theorem div_lg (a b : Nat) (h0 : a ≠ 0) (ha : a < 256) (g0 : b ≠ 0) (hb : b < 256) : ex (lg a + 255 - lg b) = mul a (inv b) := by
  obtain ⟨h1, h2⟩ := ex_lg a h0 ha
  obtain ⟨h3, h4⟩ := ex_lg b g0 hb
  have e : inv b = ex (lg b * 254) := by
    unfold inv
    generalize lg b = n at *
    subst h3
    rw [pw_ex]
  rw [e]
  generalize lg b = m at *
  generalize lg a = n at *
  subst h1
  rw [mul_ex_ex, ex_inj]
  omega
end Gf
/-- a table lies at the head of block B -/
structure TabAt (W : World) (B : Nat) (C : Array Value) : Prop where
  block : W.heap[B]? = some (.cells C 45 (0, 0))
  tab : Gf.Tab C
theorem TabAt.cell {W : World} {B : Nat} {C : Array Value} (h : TabAt W B C) (i : Nat) : W.cell? ⟨B, i, none⟩ = C[i]? := by
  unfold World.cell?; rw [h.block]; rfl
theorem TabAt.later {W W' : World} {B : Nat} {C : Array Value} (h : TabAt W B C) (hb : Below W.heap.size W W') : TabAt W' B C :=
  ⟨by rw [hb.block B (Array.getElem?_eq_some_iff.1 h.block).1]; exact h.block, h.tab⟩
theorem TabAt.made {W : World} {C : Array Value} {n : Nat} (h : Gf.Tab C) : TabAt ((W.alloc (.cells C 45)).drewN n) W.heap.size C := by
  refine ⟨?_, h⟩
  show (W.alloc (.cells C 45)).heap[W.heap.size]? = _
  exact (MapKept.heap_alloc W _).1

theorem tmul_any (a b : Nat) (ha : a < 256) (hb : b < 256) (B : Nat) (C : Array Value) (w : World) (hT : TabAt w B C) :
    Calls Tryd.prog 10 #[.pointer (some ⟨B, 0, none⟩), .int .u8 (a : Int), .int .u8 (b : Int)] w fun e w' => e = .returned (.int .u8 (Gf.mul a b : Nat)) ∧ ∃ n, w' = w.drewN n := by
  by_cases h0 : a = 0
  · have t1 : ((a : Int) == 0) = true := by simpa using h0
    have HM : Hid (Gf.mul a b = 0) := Lib.hid (by rw [h0, Gf.mul_zero_left])
    clear h0 hT
    go_enter Tryd.func10, Tryd.ntmps10
    go_wp2
    go_ret
    exact ⟨ret_int (by rw [HM.out]; rfl), 0, rfl⟩
  · by_cases g0 : b = 0
    · have t1 : ((a : Int) == 0) = false := by simpa using h0
      have t2 : ((b : Int) == 0) = true := by simpa using g0
      have HM : Hid (Gf.mul a b = 0) := Lib.hid (by rw [g0, Gf.mul_zero_right])
      clear h0 g0 hT
      go_enter Tryd.func10, Tryd.ntmps10
      go_wp2
      go_ret
      exact ⟨ret_int (by rw [HM.out]; rfl), 0, rfl⟩
    · have t1 : ((a : Int) == 0) = false := by simpa using h0
      have t2 : ((b : Int) == 0) = false := by simpa using g0
      have la := (Gf.ex_lg a h0 ha).2
      have lb := (Gf.ex_lg b g0 hb).2
      have HM := Lib.hid (Gf.mul_lg a b h0 ha g0 hb)
      have c1 : w.cell? ⟨B, 510 + a, none⟩ = some (.int .i64 (Gf.lg a : Nat)) := by rw [hT.cell]; exact hT.tab.logAt a h0 ha
      have c2 : w.cell? ⟨B, 510 + b, none⟩ = some (.int .i64 (Gf.lg b : Nat)) := by rw [hT.cell]; exact hT.tab.logAt b g0 hb
      have c3 : w.cell? ⟨B, Gf.lg a + Gf.lg b, none⟩ = some (.int .u8 (Gf.ex (Gf.lg a + Gf.lg b) : Nat)) := by rw [hT.cell]; exact hT.tab.exp _ (by omega)
      clear h0 g0 hT
      go_enter Tryd.func10, Tryd.ntmps10
      go_wp2
      go_quiet (fail)
      go_wp2
      go_ret
      exact ⟨ret_int (by rw [HM.out]), _, rfl⟩
theorem tdiv_zero (a b : Nat) (h : a = 0 ∨ b = 0) (B : Nat) (w : World) :
    Calls Tryd.prog 15 #[.pointer (some ⟨B, 0, none⟩), .int .u8 (a : Int), .int .u8 (b : Int)] w fun e w' => e = .returned (.int .u8 0) ∧ ∃ n, w' = w.drewN n := by
  by_cases h0 : a = 0
  · have t1 : ((a : Int) == 0) = true := by simpa using h0
    clear h0 h
    go_enter Tryd.func15, Tryd.ntmps15
    go_wp2
    go_ret
    exact ⟨rfl, 0, rfl⟩
  · have t1 : ((a : Int) == 0) = false := by simpa using h0
    have t2 : ((b : Int) == 0) = true := by have : b = 0 := by omega
                                            simpa using this
    clear h0 h
    go_enter Tryd.func15, Tryd.ntmps15
    go_wp2
    go_ret
    exact ⟨rfl, 0, rfl⟩
theorem tdiv_any (a b : Nat) (ha : a < 256) (g0 : b ≠ 0) (hb : b < 256) (B : Nat) (C : Array Value) (w : World) (hT : TabAt w B C) :
    Calls Tryd.prog 15 #[.pointer (some ⟨B, 0, none⟩), .int .u8 (a : Int), .int .u8 (b : Int)] w fun e w' => e = .returned (.int .u8 (Gf.mul a (Gf.inv b) : Nat)) ∧ ∃ n, w' = w.drewN n := by
  by_cases h0 : a = 0
  · have h := tdiv_zero a b (Or.inl h0) B w
    have e : Gf.mul a (Gf.inv b) = 0 := by rw [h0, Gf.mul_zero_left]
    rw [e]; exact h
  · have t1 : ((a : Int) == 0) = false := by simpa using h0
    have t2 : ((b : Int) == 0) = false := by simpa using g0
    have la := (Gf.ex_lg a h0 ha).2
    have lb := (Gf.ex_lg b g0 hb).2
    have HM := Lib.hid (Gf.div_lg a b h0 ha g0 hb)
    have c1 : w.cell? ⟨B, 510 + a, none⟩ = some (.int .i64 (Gf.lg a : Nat)) := by rw [hT.cell]; exact hT.tab.logAt a h0 ha
    have c2 : w.cell? ⟨B, 510 + b, none⟩ = some (.int .i64 (Gf.lg b : Nat)) := by rw [hT.cell]; exact hT.tab.logAt b g0 hb
    have hi0 : 0 ≤ (Gf.lg a : Int) - Gf.lg b + 255 := by omega
    have hi1 : (Gf.lg a : Int) - Gf.lg b + 255 < 510 := by omega
    have hi2 : ((Gf.lg a : Int) - Gf.lg b + 255).toNat = Gf.lg a + 255 - Gf.lg b := by omega
    have c3 : w.cell? ⟨B, ((Gf.lg a : Int) - Gf.lg b + 255).toNat, none⟩ = some (.int .u8 (Gf.ex (Gf.lg a + 255 - Gf.lg b) : Nat)) := by rw [hi2, hT.cell]; exact hT.tab.exp _ (by omega)
    clear h0 g0 hT hi2
    go_enter Tryd.func15, Tryd.ntmps15
    go_wp2
    go_quiet (fail)
    go_wp2
    go_ret
    exact ⟨ret_int (by rw [HM.out]), _, rfl⟩
theorem tlog_zero (a : Nat) (h0 : a = 0) (B : Nat) (C : Array Value) (w : World) (hT : TabAt w B C) :
    Calls Tryd.prog 18 #[.pointer (some ⟨B, 0, none⟩), .int .u8 (a : Int)] w fun e w' => e = .returned (.int .i64 (-1)) ∧ w = w' := by
  have c1 : w.cell? ⟨B, 510 + a, none⟩ = some (.int .i64 (-1)) := by rw [hT.cell, h0]; exact hT.tab.zero
  have ha : a < 256 := by omega
  clear h0 hT
  go_enter Tryd.func18, Tryd.ntmps18
  go_wp2
  go_ret
  exact ⟨rfl, rfl⟩
theorem tlog_pos (a : Nat) (h0 : a ≠ 0) (ha : a < 256) (B : Nat) (C : Array Value) (w : World) (hT : TabAt w B C) :
    Calls Tryd.prog 18 #[.pointer (some ⟨B, 0, none⟩), .int .u8 (a : Int)] w fun e w' => e = .returned (.int .i64 (Gf.lg a : Nat)) ∧ w = w' := by
  have c1 : w.cell? ⟨B, 510 + a, none⟩ = some (.int .i64 (Gf.lg a : Nat)) := by rw [hT.cell]; exact hT.tab.logAt a h0 ha
  clear h0 hT
  go_enter Tryd.func18, Tryd.ntmps18
  go_wp2
  go_ret
  exact ⟨rfl, rfl⟩
theorem texp_any (n : Int) (B : Nat) (C : Array Value) (w : World) (hT : TabAt w B C) :
    Calls Tryd.prog 25 #[.pointer (some ⟨B, 0, none⟩), .int .i64 n] w fun e w' => e = .returned (.int .u8 (Gf.ex (n % 255).toNat : Nat)) ∧ ∃ n, w' = w.drewN n := by
  have hm : 0 ≤ n % 255 ∧ n % 255 < 255 := by omega
  obtain ⟨L, hL⟩ := Int.eq_ofNat_of_zero_le hm.1
  have ct : ∀ w, Calls Tryd.prog 29 #[.int .i64 n] w fun e w' => e = .returned (.int .i64 (L : Int)) ∧ w' = w := by
    intro w; rw [← hL]; exact (turn_any n w).mono fun _ _ ⟨h1, h2⟩ => ⟨h1, h2.symm⟩
  have CT := Lib.hid ct
  have hl : L < 510 := by omega
  have c3 : w.cell? ⟨B, L, none⟩ = some (.int .u8 (Gf.ex L : Nat)) := by rw [hT.cell]; exact hT.tab.exp _ (by omega)
  have HL : Hid ((n % 255).toNat = L) := Lib.hid (by omega)
  clear hT hm hL ct
  go_enter Tryd.func25, Tryd.ntmps25
  go_wp2
  go_quiet ((go_at_call 29; exact Calls.quiet_of_same (CT.out _)))
  go_wp2
  go_ret
  exact ⟨ret_int (by rw [HL.out]), _, rfl⟩
theorem div_zero (a b : Nat) (h0 : b = 0) (u : TypeId) (v : Value) (w : World) (hc : w.cell? ⟨0, 0, none⟩ = some (.iface u v)) :
    Calls Tryd.prog 13 #[.int .u8 (a : Int), .int .u8 (b : Int)] w fun e w' => e = .returned (.tuple #[.int .u8 0, .iface u v]) ∧ ∃ n, w' = w.drewN n := by
  have HZ := Lib.hid hc
  have H0 := Lib.hid h0
  clear hc h0
  go_enter Tryd.func13, Tryd.ntmps13
  go_wp2_with fail
  refine (inv_zero b H0.out _ _ HZ.out).mono ?_; rintro e w' ⟨rfl, nd, rfl⟩
  go_wp2_with fail
  go_ret2
  exact ⟨rfl, _, rfl⟩
theorem div_any (a b : Nat) (ha : a < 256) (h0 : b ≠ 0) (hb : b < 256) (w : World) :
    Calls Tryd.prog 13 #[.int .u8 (a : Int), .int .u8 (b : Int)] w fun e w' => e = .returned (.tuple #[.int .u8 (Gf.mul a (Gf.inv b) : Nat), .nilIface]) ∧ w = w' := by
  have H0 := Lib.hid h0
  have hi := Gf.inv_lt b
  clear h0
  go_enter Tryd.func13, Tryd.ntmps13
  go_wp2_with fail
  refine (inv_pos b H0.out hb _).mono ?_; rintro e w' ⟨rfl, rfl⟩
  go_wp2_with fail
  refine (mul_nat a _ ha hi _).mono ?_; rintro e w' ⟨rfl, rfl⟩
  go_wp2_with fail
  go_ret2
  exact ⟨rfl, rfl⟩
end Go.Proofs.YtegipidipkikgaaDoor
