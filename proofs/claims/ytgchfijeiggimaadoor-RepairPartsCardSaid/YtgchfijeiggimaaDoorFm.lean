/- The table that field.Make makes. A table in memory, and its products. Contract of a table's Div. Contracts of field.Inv and field.Div. Contracts of a table's other methods, and of field.Div. -/
import Derived.Test.YtgchfijeiggimaaDoorFw
import Derived.RegionTactic
import Derived.Outline
import Derived.Deep.QuietTactic
import Derived.BigQuiet
import Derived.ChangeAlike
import Derived.Test.YtgchfijeiggimaaDoorGf
namespace Go.Proofs.YtgchfijeiggimaaDoor
open Go.RowKit
set_option linter.unusedVariables false
namespace Gf
/-- a table after k rounds -/
structure TabK (k : Nat) (C : Array Value) : Prop where
  size : C.size = 766
  low : ∀ i, i < k → C[i]? = some (.int .u8 (ex i : Nat))
  high : ∀ i, i < k → C[i + 255]? = some (.int .u8 (ex i : Nat))
  zero : C[510]? = some (.int .i64 (-1))
  log : ∀ i, i < k → C[510 + ex i]? = some (.int .i64 i)
theorem TabK.step {k : Nat} {C : Array Value} (h : TabK k C) (hk : k < 255) :
    TabK (k + 1) (((C.setIfInBounds k (.int .u8 (ex k : Nat))).setIfInBounds (k + 255) (.int .u8 (ex k : Nat))).setIfInBounds (510 + ex k) (.int .i64 k)) := by
  have hs := h.size
  have he := ex_lt k
  have h0 := ex_ne k
  refine ⟨by simp [hs], ?_, ?_, ?_, ?_⟩
  · intro i hi
    simp only [Array.getElem?_setIfInBounds, Array.size_setIfInBounds]
    rw [if_neg (by omega), if_neg (by omega)]
    by_cases hik : k = i
    · subst hik; rw [if_pos rfl, if_pos (by omega)]
    · rw [if_neg hik]; exact h.low i (by omega)
  · intro i hi
    simp only [Array.getElem?_setIfInBounds, Array.size_setIfInBounds]
    rw [if_neg (by omega)]
    by_cases hik : k = i
    · subst hik; rw [if_pos rfl, if_pos (by omega)]
    · rw [if_neg (by omega), if_neg (by omega)]; exact h.high i (by omega)
  · simp only [Array.getElem?_setIfInBounds, Array.size_setIfInBounds]
    rw [if_neg (by omega), if_neg (by omega), if_neg (by omega)]; exact h.zero
  · intro i hi
    simp only [Array.getElem?_setIfInBounds, Array.size_setIfInBounds]
    by_cases hik : k = i
    · subst hik; rw [if_pos rfl, if_pos (by omega)]
    · have hne : ex k ≠ ex i := by
        intro hx
        have := (ex_inj k i).1 hx
        rw [Nat.mod_eq_of_lt hk, Nat.mod_eq_of_lt (by omega)] at this
        exact hik this
      rw [if_neg (by omega), if_neg (by omega), if_neg (by omega)]; exact h.log i (by omega)
/-- the whole table -/
structure Tab (C : Array Value) : Prop where
  size : C.size = 766
  exp : ∀ i, i < 510 → C[i]? = some (.int .u8 (ex i : Nat))
  zero : C[510]? = some (.int .i64 (-1))
  log : ∀ i, i < 255 → C[510 + ex i]? = some (.int .i64 i)
theorem TabK.tab {C : Array Value} (h : TabK 255 C) : Tab C := by
  refine ⟨h.size, ?_, h.zero, h.log⟩
  intro i hi
  by_cases hlt : i < 255
  · exact h.low i hlt
  · have := h.high (i - 255) (by omega)
    rw [show i - 255 + 255 = i by omega] at this
    rw [this, ← ex_add_255 (i - 255), show i - 255 + 255 = i by omega]
end Gf
def tz : Array Value := Array.replicate 510 (.int .u8 0) ++ Array.replicate 256 (.int .i64 0)
theorem zero_table (w : World) : Sem.run Tryd.prog (zeroValue 102) w = .ok (.agg tz) w := by kernel_rfl
theorem set_made (w : World) (C : Array Value) (T : TypeId) (n i : Nat) (v : Value) :
    ((w.alloc (.cells C T)).drewN n).setCell ⟨w.heap.size, i, none⟩ v = (w.alloc (.cells (C.setIfInBounds i v) T)).drewN n := by
  have h : ∀ (x : World), (x.drewN n).setCell ⟨w.heap.size, i, none⟩ v = (x.setCell ⟨w.heap.size, i, none⟩ v).drewN n := fun x => rfl
  rw [h]
  congr 1
  go_simp
def MkAt (w : World) (p i : Value) (wr : World) : Prop :=
  ∃ (k n : Nat) (C : Array Value), k ≤ 255 ∧ p = .int .u8 (Gf.ex k : Nat) ∧ i = .int .i64 k ∧ Gf.TabK k C ∧ wr = (w.alloc (.cells C 102)).drewN n
/-- what Make answers: a new table -/
def MadeTab (w : World) (e : Ending) (w' : World) : Prop :=
  ∃ (n : Nat) (C : Array Value), Gf.Tab C ∧ e = .returned (.pointer (some ⟨w.heap.size, 0, none⟩)) ∧ w' = (w.alloc (.cells C 102)).drewN n
set_option maxRecDepth 100000 in
theorem make_of (Z : Array Value) (hs : Z.size = 766) (z : Value) (hz1 : Z[510]? = some z) (w : World) (hz : ∀ w, Sem.run Tryd.prog (zeroValue 102) w = .ok (.agg Z) w) :
    Calls Tryd.prog 45 #[] w (MadeTab w) := by
  have HS := Lib.hid hs
  clear hs
  go_enter Tryd.func45, Tryd.ntmps45
  go_wp2
  clear hz
  go_loopw [2, 10] (fun p i wr => MkAt w p i wr) (fun _ i _ => 255 - (intOf i).toNat)
  case atStart =>
    refine ⟨0, 0, _, by decide, rfl, rfl, ⟨by simp [HS.out], fun i h => absurd h (by omega), fun i h => absurd h (by omega), ?_, fun i h => absurd h (by omega)⟩, rfl⟩
    simp [HS.out]
  case round =>
    obtain ⟨k, n, C, hk, rfl, rfl, hC, rfl⟩ := hrel
    have hCs := hC.size
    by_cases hlt : k < 255
    · obtain ⟨x1, h1⟩ : ∃ x, C[k]? = some x := ⟨C[k]'(by omega), by simp⟩
      obtain ⟨x2, h2⟩ : ∃ x, C[k + 255]? = some x := ⟨C[k + 255]'(by omega), by simp⟩
      have HC := Lib.hid hC
      have HCs := Lib.hid hCs
      clear hC hCs
      go_wp2
      go_region
      rw [set_made, set_made]
      generalize hD : (C.setIfInBounds k (Value.int IntKind.u8 ↑(Gf.ex k))).setIfInBounds (k + 255) (Value.int IntKind.u8 ↑(Gf.ex k)) = D
      have hDs : D.size = 766 := by rw [← hD]; simp [HCs.out]
      have hel := Gf.ex_lt k
      obtain ⟨x3, h3⟩ : ∃ x, D[510 + Gf.ex k]? = some x := ⟨D[510 + Gf.ex k]'(by omega), by simp⟩
      have HD := Lib.hid hD
      have HDs := Lib.hid hDs
      clear hD hDs h1 h2
      go_wp2_with (go_at_call 61; refine (double_any (Gf.ex k) hel _).mono ?_; rintro e w' ⟨rfl, rfl⟩)
      refine ⟨⟨k + 1, n + 1, D.setIfInBounds (510 + Gf.ex k) (.int .i64 k), by omega, rfl, by go_num, ?_, set_made w D _ _ _ _⟩, by simp [intOf]; omega⟩
      rw [← HD.out]
      exact HC.out.step hlt
    · obtain rfl : k = 255 := by omega
      clear hCs
      have HC := Lib.hid hC
      clear hC
      go_wp2
      go_ret
      exact ⟨n, C, HC.out.tab, rfl, rfl⟩
theorem make_any (w : World) : Calls Tryd.prog 45 #[] w (MadeTab w) := by
  refine make_of tz ?_ (.int .i64 0) ?_ w zero_table
  · simp [tz]
  · simp [tz]
theorem below_dn {B : Nat} {a w : World} (h : Below B a w) (n : Nat) : Below B a (w.drewN n) := h.trans ⟨rfl, rfl, rfl, Nat.le_refl _, fun _ _ => rfl⟩
theorem made_below {w : World} {C : Array Value} {T : TypeId} {n : Nat} : Below w.heap.size w ((w.alloc (.cells C T)).drewN n) := by
  have h : ∀ n, Below w.heap.size w ((w.alloc (.cells C T)).drewN n) := by
    intro n
    induction n with
    | zero => exact (Below.refl _ _).alloc (Nat.le_refl _) _
    | succ n ih => exact ih.drew
  exact h n

end Go.Proofs.YtgchfijeiggimaaDoor
namespace Go.Proofs.YtgchfijeiggimaaDoor
open Go.RowKit
set_option linter.unusedVariables false
namespace Gf
theorem Tab.logAt {C : Array Value} (h : Tab C) (a : Nat) (h0 : a ≠ 0) (ha : a < 256) : C[510 + a]? = some (.int .i64 (lg a : Nat)) := by
  obtain ⟨h1, h2⟩ := ex_lg a h0 ha
  have := h.log (lg a) h2
  rw [h1] at this; exact this
theorem mul_lg (a b : Nat) (h0 : a ≠ 0) (ha : a < 256) (g0 : b ≠ 0) (hb : b < 256) : ex (lg a + lg b) = mul a b := by
  rw [← mul_ex_ex, (ex_lg a h0 ha).1, (ex_lg b g0 hb).1]
end Gf
/-- a table lies at the head of block B -/
structure TabAt (W : World) (B : Nat) (C : Array Value) : Prop where
  block : W.heap[B]? = some (.cells C 102 (0, 0))
  tab : Gf.Tab C
theorem TabAt.cell {W : World} {B : Nat} {C : Array Value} (h : TabAt W B C) (i : Nat) : W.cell? ⟨B, i, none⟩ = C[i]? := by
  unfold World.cell?; rw [h.block]; rfl
theorem TabAt.later {W W' : World} {B : Nat} {C : Array Value} (h : TabAt W B C) (hb : Below W.heap.size W W') : TabAt W' B C :=
  ⟨by rw [hb.block B (Array.getElem?_eq_some_iff.1 h.block).1]; exact h.block, h.tab⟩
theorem TabAt.made {W : World} {C : Array Value} {n : Nat} (h : Gf.Tab C) : TabAt ((W.alloc (.cells C 102)).drewN n) W.heap.size C := by
  refine ⟨?_, h⟩
  show (W.alloc (.cells C 102)).heap[W.heap.size]? = _
  exact (MapKept.heap_alloc W _).1

theorem tmul_any (a b : Nat) (ha : a < 256) (hb : b < 256) (B : Nat) (C : Array Value) (w : World) (hT : TabAt w B C) :
    Calls Tryd.prog 69 #[.pointer (some ⟨B, 0, none⟩), .int .u8 (a : Int), .int .u8 (b : Int)] w fun e w' => e = .returned (.int .u8 (Gf.mul a b : Nat)) ∧ ∃ n, w' = w.drewN n := by
  by_cases h0 : a = 0
  · have t1 : ((a : Int) == 0) = true := by simpa using h0
    have HM : Hid (Gf.mul a b = 0) := Lib.hid (by rw [h0, Gf.mul_zero_left])
    clear h0 hT
    go_enter Tryd.func69, Tryd.ntmps69
    go_wp2
    go_ret
    exact ⟨ret_int (by rw [HM.out]; rfl), 0, rfl⟩
  · by_cases g0 : b = 0
    · have t1 : ((a : Int) == 0) = false := by simpa using h0
      have t2 : ((b : Int) == 0) = true := by simpa using g0
      have HM : Hid (Gf.mul a b = 0) := Lib.hid (by rw [g0, Gf.mul_zero_right])
      clear h0 g0 hT
      go_enter Tryd.func69, Tryd.ntmps69
      go_wp2
      go_ret
      exact ⟨ret_int (by rw [HM.out]; rfl), 0, rfl⟩
    · have t1 : ((a : Int) == 0) = false := by simpa using h0
      have t2 : ((b : Int) == 0) = false := by simpa using g0
      have la := (Gf.ex_lg a h0 ha).2
      have lb := (Gf.ex_lg b g0 hb).2
      have HM := Lib.hid (Gf.mul_lg a b h0 ha g0 hb)
      have c1 : w.cell? ⟨B, 510 + a, none⟩ = some (.int .i64 (Gf.lg a : Nat)) := by rw [hT.cell]; exact hT.tab.logAt a h0 ha
      have c2 : w.cell? ⟨B, 510 + b, none⟩ = some (.int .i64 (Gf.lg b : Nat)) := by rw [hT.cell]; exact hT.tab.logAt b g0 hb
      have c3 : w.cell? ⟨B, Gf.lg a + Gf.lg b, none⟩ = some (.int .u8 (Gf.ex (Gf.lg a + Gf.lg b) : Nat)) := by rw [hT.cell]; exact hT.tab.exp _ (by omega)
      clear h0 g0 hT
      go_enter Tryd.func69, Tryd.ntmps69
      go_wp2
      go_quiet (fail)
      go_wp2
      go_ret
      exact ⟨ret_int (by rw [HM.out]), _, rfl⟩
end Go.Proofs.YtgchfijeiggimaaDoor
namespace Go.Proofs.YtgchfijeiggimaaDoor
open Go.RowKit
set_option linter.unusedVariables false
namespace Gf
theorem div_lg (a b : Nat) (h0 : a ≠ 0) (ha : a < 256) (g0 : b ≠ 0) (hb : b < 256) : ex (lg a + 255 - lg b) = mul a (inv b) := by
  obtain ⟨h1, h2⟩ := ex_lg a h0 ha
  obtain ⟨h3, h4⟩ := ex_lg b g0 hb
  have e : inv b = ex (lg b * 254) := by
    unfold inv
    generalize lg b = n at *
    subst h3
    rw [pw_ex]
  rw [e]
  generalize lg b = m at *
  generalize lg a = n at *
  subst h1
  rw [mul_ex_ex, ex_inj]
  omega
end Gf
theorem tdiv_zero (a b : Nat) (h : a = 0 ∨ b = 0) (B : Nat) (w : World) :
    Calls Tryd.prog 66 #[.pointer (some ⟨B, 0, none⟩), .int .u8 (a : Int), .int .u8 (b : Int)] w fun e w' => e = .returned (.int .u8 0) ∧ ∃ n, w' = w.drewN n := by
  by_cases h0 : a = 0
  · have t1 : ((a : Int) == 0) = true := by simpa using h0
    clear h0 h
    go_enter Tryd.func66, Tryd.ntmps66
    go_wp2
    go_ret
    exact ⟨rfl, 0, rfl⟩
  · have t1 : ((a : Int) == 0) = false := by simpa using h0
    have t2 : ((b : Int) == 0) = true := by have : b = 0 := by omega
                                            simpa using this
    clear h0 h
    go_enter Tryd.func66, Tryd.ntmps66
    go_wp2
    go_ret
    exact ⟨rfl, 0, rfl⟩
theorem tdiv_any (a b : Nat) (ha : a < 256) (g0 : b ≠ 0) (hb : b < 256) (B : Nat) (C : Array Value) (w : World) (hT : TabAt w B C) :
    Calls Tryd.prog 66 #[.pointer (some ⟨B, 0, none⟩), .int .u8 (a : Int), .int .u8 (b : Int)] w fun e w' => e = .returned (.int .u8 (Gf.mul a (Gf.inv b) : Nat)) ∧ ∃ n, w' = w.drewN n := by
  by_cases h0 : a = 0
  · have h := tdiv_zero a b (Or.inl h0) B w
    have e : Gf.mul a (Gf.inv b) = 0 := by rw [h0, Gf.mul_zero_left]
    rw [e]; exact h
  · have t1 : ((a : Int) == 0) = false := by simpa using h0
    have t2 : ((b : Int) == 0) = false := by simpa using g0
    have la := (Gf.ex_lg a h0 ha).2
    have lb := (Gf.ex_lg b g0 hb).2
    have HM := Lib.hid (Gf.div_lg a b h0 ha g0 hb)
    have c1 : w.cell? ⟨B, 510 + a, none⟩ = some (.int .i64 (Gf.lg a : Nat)) := by rw [hT.cell]; exact hT.tab.logAt a h0 ha
    have c2 : w.cell? ⟨B, 510 + b, none⟩ = some (.int .i64 (Gf.lg b : Nat)) := by rw [hT.cell]; exact hT.tab.logAt b g0 hb
    have hi0 : 0 ≤ (Gf.lg a : Int) - Gf.lg b + 255 := by omega
    have hi1 : (Gf.lg a : Int) - Gf.lg b + 255 < 510 := by omega
    have hi2 : ((Gf.lg a : Int) - Gf.lg b + 255).toNat = Gf.lg a + 255 - Gf.lg b := by omega
    have c3 : w.cell? ⟨B, ((Gf.lg a : Int) - Gf.lg b + 255).toNat, none⟩ = some (.int .u8 (Gf.ex (Gf.lg a + 255 - Gf.lg b) : Nat)) := by rw [hi2, hT.cell]; exact hT.tab.exp _ (by omega)
    clear h0 g0 hT hi2
    go_enter Tryd.func66, Tryd.ntmps66
    go_wp2
    go_quiet (fail)
    go_wp2
    go_ret
    exact ⟨ret_int (by rw [HM.out]), _, rfl⟩
end Go.Proofs.YtgchfijeiggimaaDoor
namespace Go.Proofs.YtgchfijeiggimaaDoor
open Go.RowKit
set_option linter.unusedVariables false
theorem inv_zero (a : Nat) (h0 : a = 0) (ev : Value) (w : World) (hc : w.cell? ⟨19, 0, none⟩ = some ev) :
    Calls Tryd.prog 31 #[.int .u8 (a : Int)] w fun e w' => e = .returned (.tuple #[.int .u8 0, ev]) ∧ ∃ n, w' = w.drewN n := by
  have hz : ((a : Int) == 0) = true := by simpa using h0
  clear h0
  go_enter Tryd.func31, Tryd.ntmps31
  go_wp2
  go_quiet (fail)
  go_wp2
  go_ret2
  exact ⟨rfl, _, rfl⟩
theorem inv_pos (a : Nat) (h0 : a ≠ 0) (ha : a < 256) (w : World) :
    Calls Tryd.prog 31 #[.int .u8 (a : Int)] w fun e w' => e = .returned (.tuple #[.int .u8 (Gf.inv a : Nat), .nilIface]) ∧ w = w' := by
  have hz : ((a : Int) == 0) = false := by simpa using h0
  have c : ∀ w, Calls Tryd.prog 58 #[.int .u8 a, .int .i64 (-1)] w fun e w' => e = .returned (.int .u8 (Gf.inv a : Nat)) ∧ w = w' := by
    intro w
    have h := pow_nat a (-1) ha w
    have h2 : Gf.powI a (-1) = Gf.inv a := by unfold Gf.powI Gf.inv; rw [if_neg h0]; rfl
    rw [h2] at h; exact h
  have C := Lib.hid c
  clear c
  go_enter Tryd.func31, Tryd.ntmps31
  go_wp2_with (go_at_call 58; refine (C.out _).mono ?_; rintro e w' ⟨rfl, rfl⟩)
  go_ret2
  exact ⟨rfl, rfl⟩
end Go.Proofs.YtgchfijeiggimaaDoor
namespace Go.Proofs.YtgchfijeiggimaaDoor
open Go.RowKit
set_option linter.unusedVariables false
theorem texp_any (n : Int) (B : Nat) (C : Array Value) (w : World) (hT : TabAt w B C) :
    Calls Tryd.prog 47 #[.pointer (some ⟨B, 0, none⟩), .int .i64 n] w fun e w' => e = .returned (.int .u8 (Gf.ex (n % 255).toNat : Nat)) ∧ ∃ n, w' = w.drewN n := by
  have hm : 0 ≤ n % 255 ∧ n % 255 < 255 := by omega
  obtain ⟨L, hL⟩ := Int.eq_ofNat_of_zero_le hm.1
  have ct : ∀ w, Calls Tryd.prog 70 #[.int .i64 n] w fun e w' => e = .returned (.int .i64 (L : Int)) ∧ w' = w := by
    intro w; rw [← hL]; exact (turn_any n w).mono fun _ _ ⟨h1, h2⟩ => ⟨h1, h2.symm⟩
  have CT := Lib.hid ct
  have hl : L < 510 := by omega
  have c3 : w.cell? ⟨B, L, none⟩ = some (.int .u8 (Gf.ex L : Nat)) := by rw [hT.cell]; exact hT.tab.exp _ (by omega)
  have HL : Hid ((n % 255).toNat = L) := Lib.hid (by omega)
  clear hT hm hL ct
  go_enter Tryd.func47, Tryd.ntmps47
  go_wp2
  go_quiet ((go_at_call 70; exact Calls.quiet_of_same (CT.out _)))
  go_wp2
  go_ret
  exact ⟨ret_int (by rw [HL.out]), _, rfl⟩
theorem fdiv_zero (a b : Nat) (h0 : b = 0) (u : TypeId) (v : Value) (w : World) (hc : w.cell? ⟨19, 0, none⟩ = some (.iface u v)) :
    Calls Tryd.prog 35 #[.int .u8 (a : Int), .int .u8 (b : Int)] w fun e w' => e = .returned (.tuple #[.int .u8 0, .iface u v]) ∧ ∃ n, w' = w.drewN n := by
  have HZ := Lib.hid hc
  have H0 := Lib.hid h0
  clear hc h0
  go_enter Tryd.func35, Tryd.ntmps35
  go_wp2_with fail
  refine (inv_zero b H0.out _ _ HZ.out).mono ?_; rintro e w' ⟨rfl, nd, rfl⟩
  go_wp2_with fail
  go_ret2
  exact ⟨rfl, _, rfl⟩
theorem fdiv_any (a b : Nat) (ha : a < 256) (h0 : b ≠ 0) (hb : b < 256) (w : World) :
    Calls Tryd.prog 35 #[.int .u8 (a : Int), .int .u8 (b : Int)] w fun e w' => e = .returned (.tuple #[.int .u8 (Gf.mul a (Gf.inv b) : Nat), .nilIface]) ∧ w = w' := by
  have H0 := Lib.hid h0
  have hi := Gf.inv_lt b
  clear h0
  go_enter Tryd.func35, Tryd.ntmps35
  go_wp2_with fail
  refine (inv_pos b H0.out hb _).mono ?_; rintro e w' ⟨rfl, rfl⟩
  go_wp2_with fail
  refine (mul_nat a _ ha hi _).mono ?_; rintro e w' ⟨rfl, rfl⟩
  go_wp2_with fail
  go_ret2
  exact ⟨rfl, rfl⟩
end Go.Proofs.YtgchfijeiggimaaDoor
