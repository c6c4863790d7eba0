/- The walk of RepairParts. -/
import Derived.Test.YtgchfijeiggimaaDoorAl5
import Derived.Test.YtgchfijeiggimaaDoorSo
import Derived.Test.YtgchfijeiggimaaDoorOs
namespace Go.Proofs.YtgchfijeiggimaaDoor
open Go.RowKit
set_option linter.unusedVariables false
set_option linter.unusedSimpArgs false
theorem rinv5 (a : UInt8) (h : a ≠ 0) (w : World) : Calls Tryd.prog 17 #[.int .u8 (a.toNat : Int)] w fun e w' => e = .returned (.int .u8 ((Gf.gd 1 a).toNat : Int)) ∧ w' = w := by
  obtain ⟨y, hy, hc⟩ := rinv_u8 a h
  rw [← inv_only hy]
  exact hc w
theorem rmul5 (x y : UInt8) (v : World) : Calls Tryd.prog 19 #[.int .u8 (x.toNat : Int), .int .u8 (y.toNat : Int)] v fun e w' => e = .returned (.int .u8 ((Gf.gm x y).toNat : Int)) ∧ w' = v := by
  refine (rmul_nat x.toNat y.toNat (UInt8.toNat_lt x) (UInt8.toNat_lt y) v).mono ?_
  rintro e w' ⟨rfl, rfl⟩
  exact ⟨by rw [Gf.gm_nat], rfl⟩
theorem al_of (a : UInt8) (h : a ≠ 0) : ∃ m, a = Gf.al m := by
  obtain ⟨m, _, hm⟩ := Gf.ex_of a.toNat (fun e => h (Gf.u8_ext e)) (UInt8.toNat_lt a)
  exact ⟨m, Gf.u8_ext (by rw [Gf.al_nat]; exact hm)⟩
theorem rpow5 (a : UInt8) (h : a ≠ 0) (j : Nat) (hj : j ≤ 1000) (v : World) : Calls Tryd.prog 20 #[.int .u8 (a.toNat : Int), .int .i64 (j : Int)] v fun e w' => e = .returned (.int .u8 ((Gf.px a j).toNat : Int)) ∧ w' = v := by
  obtain ⟨m, rfl⟩ := al_of a h
  refine (power_any (Gf.al m).toNat j (UInt8.toNat_lt _) (by omega) v).mono ?_
  rintro e w' ⟨rfl, rfl⟩
  refine ⟨?_, rfl⟩
  congr 2
  rw [Gf.px_al, Gf.al_nat, Gf.al_nat, Gf.pw_ex]
theorem vi_ne (n p : Nat) : vi n p ≠ 0 := fun e => by
  have := vi_one n p
  rw [e, Gf.gm_zero] at this
  exact absurd this (by decide)
/-- what is left behind so many counts -/
def spx (a b : Int) : Nat → Int
  | 0 => 32
  | 1 => 32 - bnd a
  | 2 => 32 - bnd a - bnd b
  | _ => 32 - bnd a - bnd b - bnd b
theorem bnd_in (k : Int) : 0 ≤ bnd k ∧ bnd k ≤ 32 := by unfold bnd; omega
theorem spx_in (a b : Int) (k : Nat) : -64 ≤ spx a b k ∧ spx a b k ≤ 32 := by
  have := bnd_in a
  have := bnd_in b
  unfold spx
  split <;> omega
/-- the derivative's value, term by term -/
def slv (G : List UInt8) (y : UInt8) (j : Nat) : UInt8 := Gf.ev (2 * j) (Gf.pd (co G)) y
theorem slv_step (G : List UInt8) (y : UInt8) (j : Nat) : slv G y (j + 1) = slv G y j ^^^ Gf.gm (co G (2 * j + 1)) (Gf.px y (2 * j)) := by
  unfold slv
  rw [show 2 * (j + 1) = 2 * j + 1 + 1 by omega]
  unfold Gf.ev
  show (Gf.sm _ (2 * j) ^^^ Gf.gm (Gf.pd (co G) (2 * j)) (Gf.px y (2 * j))) ^^^ Gf.gm (Gf.pd (co G) (2 * j + 1)) (Gf.px y (2 * j + 1)) = _
  rw [show Gf.pd (co G) (2 * j + 1) = 0 from if_neg (by omega), Gf.zero_gm, UInt8.xor_zero, show Gf.pd (co G) (2 * j) = co G (2 * j + 1) from if_pos (by omega)]
theorem slv_end (G : List UInt8) (y : UInt8) (j : Nat) (h : G.length ≤ 2 * j + 1) : slv G y j = evL (slopeL G) y := by
  have hz : ∀ i, 2 * j ≤ i → Gf.pd (co G) i = 0 := Gf.pd_ge fun i hi => co_ge (by omega)
  have hz2 : ∀ i, G.length ≤ i → Gf.pd (co G) i = 0 := fun i hi => by
    unfold Gf.pd
    split
    · exact co_ge (by omega)
    · rfl
  have hl : (slopeL G).length = G.length := by unfold slopeL; rw [tab_length]
  unfold slv evL
  rw [hl, Gf.ev_congr (g := Gf.pd (co G)) (fun i _ => co_slopeL G i)]
  rw [← Gf.ev_more (n := 2 * j) (m := max (2 * j) G.length) (by omega) hz, ← Gf.ev_more (n := G.length) (m := max (2 * j) G.length) (by omega) hz2]
theorem srP_prefix (P : List UInt8) (n k m : Nat) : ∃ t, srP P n (k + m) = srP P n k ++ t := by
  induction m with
  | zero => exact ⟨[], by simp⟩
  | succ m ih =>
    obtain ⟨t, ht⟩ := ih
    by_cases h : evL P (vi n (k + m)) = 0
    · exact ⟨t ++ [k + m], by rw [← Nat.add_assoc, srP_yes h, ht, List.append_assoc]⟩
    · exact ⟨t, by rw [← Nat.add_assoc, srP_no h, ht]⟩
theorem srI_at (P : List UInt8) (n k : Nat) (h : k < n) (hr : evL P (vi n k) = 0) : (srP P n k).length < (srP P n n).length ∧ ci (srI P n n) (srP P n k).length = (k : Int) := by
  obtain ⟨t, ht⟩ := srP_prefix P n (k + 1) (n - (k + 1))
  rw [show k + 1 + (n - (k + 1)) = n by omega, srP_yes hr] at ht
  refine ⟨by rw [ht]; simp, ?_⟩
  unfold ci srI
  rw [ht, List.getD_eq_getElem?_getD]
  simp
def P1At (a b : Int) (w0 : World) (sv iv : Value) (wr : World) : Prop := ∃ k : Nat, k ≤ 3 ∧ iv = .int .i64 k ∧ sv = .int .i64 (spx a b k) ∧ wr = w0
def P2At (G : List UInt8) (n : Nat) (w0 : World) (kv pv : Value) (wr : World) : Prop := ∃ p : Nat, p ≤ n ∧ pv = .int .i64 p ∧ kv = .int .i64 (srP G n p).length ∧ Below w0.heap.size w0 wr
def P3At (G : List UInt8) (y : UInt8) (w0 : World) (sv iv : Value) (wr : World) : Prop := ∃ j : Nat, 2 * j + 1 ≤ G.length + 2 ∧ iv = .int .i64 ((2 * j + 1 : Nat) : Int) ∧ sv = .int .u8 ((slv G y j).toNat : Int) ∧ Below w0.heap.size w0 wr
/-- how the amount ends -/
def AmEnd (G O : List UInt8) (n : Nat) (q : Int) (A : Nat → Addr) (byv : UInt8) (ev : Value) : Prop :=
  ((q < 0 ∨ (n : Int) ≤ q) ∧ byv = 0 ∧ ev = .iface 128 (.pointer (some (A 0)))) ∨
  ∃ p : Nat, p < n ∧ q = (p : Int) ∧ ((evL (slopeL G) (vi n p) = 0 ∧ byv = 0 ∧ ev = .iface 128 (.pointer (some (A 19)))) ∨ (evL (slopeL G) (vi n p) ≠ 0 ∧ byv = amt G O n p ∧ ev = .nilIface))
set_option maxRecDepth 100000 in
set_option maxHeartbeats 1000000 in
theorem pt_long (x0 n q a b : Int) (l m : Nat) (oG oO : Option Addr) (cG cO : Nat) (w : World) (h : 60 < l ∨ 60 < m) (hl : l ≤ 9223372036854775807) (hm : m ≤ 9223372036854775807) :
    Calls Tryd.prog 5 #[.agg #[.int .i64 x0, .slice oG l cG, .slice oO m cO], .agg #[.int .i64 n, .int .i64 q], .agg #[.int .i64 a, .int .i64 b]] w fun e w' => e = .returned (.bool true) ∧ Below w.heap.size w w' := by
  obtain ⟨w1, hw1⟩ : ∃ w1, w.alloc (.cells #[.int .i64 x0, .slice oG l cG, .slice oO m cO] 44) = w1 := ⟨_, rfl⟩
  obtain ⟨w2, hw2⟩ : ∃ w2, w1.alloc (.cells #[.int .i64 n, .int .i64 q] 45) = w2 := ⟨_, rfl⟩
  obtain ⟨w3, hw3⟩ : ∃ w3, w2.alloc (.cells #[.int .i64 a, .int .i64 b] 45) = w3 := ⟨_, rfl⟩
  have hb1 : Below w.heap.size w w1 := by rw [← hw1]; exact (Below.refl _ _).alloc (Nat.le_refl _) _
  have hb2 : Below w1.heap.size w1 w2 := by rw [← hw2]; exact (Below.refl _ _).alloc (Nat.le_refl _) _
  have hb3 : Below w2.heap.size w2 w3 := by rw [← hw3]; exact (Below.refl _ _).alloc (Nat.le_refl _) _
  have hf1 : w1.heap[w.heap.size]? = some (.cells #[.int .i64 x0, .slice oG l cG, .slice oO m cO] 44 (0, 0)) := by rw [← hw1]; exact World.alloc_heap_new _ _
  have HF := Lib.hid (found_keeps (found_keeps hf1 hb2) hb3)
  have HB3 := Lib.hid (Kit.step (Kit.step hb1 hb2) hb3)
  have HW1 := Lib.hid hw1
  have HW2 := Lib.hid hw2
  have HW3 := Lib.hid hw3
  clear hw1 hw2 hw3 hb1 hb2 hb3 hf1
  by_cases h1 : 60 < l
  · have hd1 : decide ((60 : Int) < (l : Int)) = true := decide_eq_true (by omega)
    clear h h1
    go_enter Tryd.func5, Tryd.ntmps5
    go_wp2_with fail
    rw [HW1.out, HW2.out, HW3.out]
    refine (alive5_any _).mono ?_; rintro e w4 ⟨rfl, hb⟩
    have HB4 := Lib.hid (Kit.step HB3.out hb)
    obtain ⟨_, hc1, hc2⟩ := found_cell (found_keeps HF.out hb)
    clear hb
    go_wp2_with fail
    go_ret
    exact ⟨rfl, HB4.out⟩
  · have hd1 : decide ((60 : Int) < (l : Int)) = false := decide_eq_false (by omega)
    have hd2 : decide ((60 : Int) < (m : Int)) = true := decide_eq_true (by omega)
    clear h h1
    go_enter Tryd.func5, Tryd.ntmps5
    go_wp2_with fail
    rw [HW1.out, HW2.out, HW3.out]
    refine (alive5_any _).mono ?_; rintro e w4 ⟨rfl, hb⟩
    have HB4 := Lib.hid (Kit.step HB3.out hb)
    obtain ⟨_, hc1, hc2⟩ := found_cell (found_keeps HF.out hb)
    clear hb
    go_wp2_with fail
    go_ret
    exact ⟨rfl, HB4.out⟩
theorem arr2_cells {w : World} {g : Nat} {a b : Value} (h : w.heap[g]? = some (.cells #[a, b] 45 (0, 0))) : w.cell? ⟨g, 0, none⟩ = some a ∧ w.cell? ⟨g, 1, none⟩ = some b :=
  ⟨by rw [cell_of_row _ _ 0 _ _ _ h]; rfl, by rw [cell_of_row _ _ 1 _ _ _ h]; rfl⟩
theorem arr2_keeps {w w' : World} {g : Nat} {fc : Array Value} (h : w.heap[g]? = some (.cells fc 45 (0, 0))) (hb : Below w.heap.size w w') : w'.heap[g]? = some (.cells fc 45 (0, 0)) := by
  rw [hb.block _ (Array.getElem?_eq_some_iff.1 h).1]; exact h
theorem spr_spx (a b : Int) : spr a b = if spx a b 3 < 0 then 0 else spx a b 3 := by
  have := bnd_in a
  have := bnd_in b
  unfold spr spx
  split <;> split <;> omega
set_option maxRecDepth 100000 in
set_option maxHeartbeats 4000000 in
theorem pt_all (x0 n q a b : Int) (G O : List UInt8) (oG oO : Option Addr) (cG cO : Nat) (w : World) (A : Nat → Addr) (hE : Er.Errs w A) (hG : RowIs w oG (bytesV G) cG) (hO : RowIs w oO (bytesV O) cO) (hlG : G.length ≤ 60) (hlO : O.length ≤ 60)
    (hn64 : -9223372036854775808 ≤ n ∧ n ≤ 9223372036854775807) (ha64 : -9223372036854775808 ≤ a ∧ a ≤ 9223372036854775807) (hb64 : -9223372036854775808 ≤ b ∧ b ≤ 9223372036854775807)
    (l : List Int) (byv : UInt8) (ev : Value) (hll : l.length ≤ 300)
    (hSR : ∀ v, Below w.heap.size w v → Calls Tryd.prog 12 #[.slice oG G.length cG, .int .i64 n] v fun e w' => ∃ x, e = .returned x ∧ IntsV l x w' ∧ Below v.heap.size v w')
    (hAM : ∀ v, Below w.heap.size w v → Calls Tryd.prog 13 #[.agg #[.int .i64 x0, .slice oG G.length cG, .slice oO O.length cO], .int .i64 n, .int .i64 q] v fun e w' => e = .returned (.tuple #[.int .u8 (byv.toNat : Int), ev]) ∧ Below v.heap.size v w')
    (hcase : (¬ (33 ≤ n ∧ n ≤ 255) ∧ l = [] ∧ byv = 0 ∧ ev = .iface 128 (.pointer (some (A 7)))) ∨ ∃ m : Nat, n = (m : Int) ∧ 33 ≤ m ∧ m ≤ 255 ∧ l = srI G m m ∧ AmEnd G O m q A byv ev) :
    Calls Tryd.prog 5 #[.agg #[.int .i64 x0, .slice oG G.length cG, .slice oO O.length cO], .agg #[.int .i64 n, .int .i64 q], .agg #[.int .i64 a, .int .i64 b]] w fun e w' => e = .returned (.bool true) ∧ Below w.heap.size w w' := by
  obtain ⟨w1, hw1⟩ : ∃ w1, w.alloc (.cells #[.int .i64 x0, .slice oG G.length cG, .slice oO O.length cO] 44) = w1 := ⟨_, rfl⟩
  obtain ⟨w2, hw2⟩ : ∃ w2, w1.alloc (.cells #[.int .i64 n, .int .i64 q] 45) = w2 := ⟨_, rfl⟩
  obtain ⟨w3, hw3⟩ : ∃ w3, w2.alloc (.cells #[.int .i64 a, .int .i64 b] 45) = w3 := ⟨_, rfl⟩
  have hb1 : Below w.heap.size w w1 := by rw [← hw1]; exact (Below.refl _ _).alloc (Nat.le_refl _) _
  have hb2 : Below w1.heap.size w1 w2 := by rw [← hw2]; exact (Below.refl _ _).alloc (Nat.le_refl _) _
  have hb3 : Below w2.heap.size w2 w3 := by rw [← hw3]; exact (Below.refl _ _).alloc (Nat.le_refl _) _
  have hf1 : w1.heap[w.heap.size]? = some (.cells #[.int .i64 x0, .slice oG G.length cG, .slice oO O.length cO] 44 (0, 0)) := by rw [← hw1]; exact World.alloc_heap_new _ _
  have hs1 : w1.heap.size = w.heap.size + 1 := by rw [← hw1]; simp
  have hs2 : w2.heap.size = w.heap.size + 1 + 1 := by rw [← hw2, World.size_alloc, hs1]
  have hf2 : w2.heap[w.heap.size + 1]? = some (.cells #[.int .i64 n, .int .i64 q] 45 (0, 0)) := by rw [← hw2, ← hs1]; exact World.alloc_heap_new _ _
  have hf3 : w3.heap[w.heap.size + 1 + 1]? = some (.cells #[.int .i64 a, .int .i64 b] 45 (0, 0)) := by rw [← hw3, ← hs2]; exact World.alloc_heap_new _ _
  have hf2' := arr2_keeps hf2 hb3
  obtain ⟨g0, hg0⟩ : ∃ g0, w.heap.size = g0 := ⟨_, rfl⟩
  have HF0 : Hid (w3.heap[g0]? = some (.cells #[.int .i64 x0, .slice oG G.length cG, .slice oO O.length cO] 44 (0, 0))) := Lib.hid (by rw [← hg0]; exact found_keeps (found_keeps hf1 hb2) hb3)
  obtain ⟨g1, hg1⟩ : ∃ g1, w.heap.size + 1 = g1 := ⟨_, rfl⟩
  rw [hg1] at hf2' hf3
  obtain ⟨g2, hg2⟩ : ∃ g2, g1 + 1 = g2 := ⟨_, rfl⟩
  rw [hg2] at hf3
  have HF1 := Lib.hid hf2'
  have HF2 := Lib.hid hf3
  have HB3 := Lib.hid (Kit.step (Kit.step hb1 hb2) hb3)
  have HW1 := Lib.hid hw1
  have HW2 := Lib.hid hw2
  have HW3 := Lib.hid hw3
  have HGA := Lib.hid hg0
  have HGB := Lib.hid hg1
  have HGC := Lib.hid hg2
  have HE := Lib.hid hE
  have HG := Lib.hid hG
  have HO := Lib.hid hO
  have HSR := Lib.hid hSR
  have HAM := Lib.hid hAM
  have HCS := Lib.hid hcase
  have hd1 : decide ((60 : Int) < (G.length : Int)) = false := decide_eq_false (by omega)
  have hd2 : decide ((60 : Int) < (O.length : Int)) = false := decide_eq_false (by omega)
  have hrG1 := hG.le
  have hrG2 := hG.cap
  simp only [bytesV_length] at hrG1
  unfold maxLen at hrG2
  clear hw1 hw2 hw3 hb1 hb2 hb3 hf1 hf2 hf3 hf2' hs1 hs2 hg0 hg1 hg2 hE hG hO hSR hAM hcase
  go_enter Tryd.func5, Tryd.ntmps5
  go_wp2_with fail
  rw [HW1.out, HW2.out, HW3.out, HGB.out, HGA.out, HGC.out]
  refine (alive5_any _).mono ?_; rintro e w4 ⟨rfl, hb⟩
  have HB4 := Lib.hid (Kit.step HB3.out hb)
  have HA4 := Lib.hid (found_keeps HF0.out hb)
  have HN4 := Lib.hid (arr2_keeps HF1.out hb)
  have HK4 := Lib.hid (arr2_keeps HF2.out hb)
  obtain ⟨_, hc1, hc2⟩ := found_cell HA4.out
  obtain ⟨hn0, hn1⟩ := arr2_cells HN4.out
  clear hb HF0 HF1 HF2
  go_wp2_with fail
  go_quiet (fail)
  rename_i nq
  obtain ⟨w5, hw5⟩ : ∃ w5, w4.drewN nq = w5 := ⟨_, rfl⟩
  have hb5 : Below w4.heap.size w4 w5 := by rw [← hw5]; exact Kit.dn' _ nq
  have HB5 := Lib.hid (Kit.step HB4.out hb5)
  have HA5 := Lib.hid (found_keeps HA4.out hb5)
  have HK5 := Lib.hid (arr2_keeps HK4.out hb5)
  rw [hw5]
  clear hc1 hc2 hn0 hn1 hw5 hb5
  obtain ⟨_, hc1, hc2⟩ := found_cell HA5.out
  go_wp2_with fail
  refine (HSR.out w5 HB5.out).mono ?_; rintro e w6 ⟨x, rfl, ⟨oL, cL, rfl, hrL⟩, hb⟩
  have HB6 := Lib.hid (Kit.step HB5.out hb)
  have HA6 := Lib.hid (found_keeps HA5.out hb)
  have HK6 := Lib.hid (arr2_keeps HK5.out hb)
  have HL6 := Lib.hid hrL
  have hrL1 := hrL.le
  have hrL2 := hrL.cap
  simp only [intsV_length] at hrL1
  unfold maxLen at hrL2
  clear hb hrL hc1 hc2 HSR
  go_wp2_with (refine wpList_load_row rfl 44 (.tmp 3) rfl g0 rfl 44 _ (0, 0) _ HA6.out Tryd.underlying44 rfl fnd_size ?_)
  refine (HAM.out w6 HB6.out).mono ?_; rintro e w7 ⟨rfl, hb⟩
  have HB7 := Lib.hid (Kit.step HB6.out hb)
  have HA7 := Lib.hid (found_keeps HA6.out hb)
  have HK7 := Lib.hid (arr2_keeps HK6.out hb)
  have HL7 := Lib.hid (HL6.out.later hb)
  obtain ⟨hk0, hk1⟩ := arr2_cells HK7.out
  obtain ⟨w8, hw8⟩ : ∃ w8, w7.alloc (.cells #[.int .i64 a, .int .i64 b, .int .i64 b] 3) = w8 := ⟨_, rfl⟩
  have hb8 : Below w7.heap.size w7 w8 := by rw [← hw8]; exact (Below.refl _ _).alloc (Nat.le_refl _) _
  have hl8 : w8.heap[w7.heap.size]? = some (.cells #[.int .i64 a, .int .i64 b, .int .i64 b] 3 (0, 0)) := by rw [← hw8]; exact World.alloc_heap_new _ _
  obtain ⟨gl, hgl⟩ : ∃ gl, w7.heap.size = gl := ⟨_, rfl⟩
  rw [hgl] at hl8
  have HLI := Lib.hid hl8
  have HB8 := Lib.hid (Kit.step HB7.out hb8)
  have HA8 := Lib.hid (found_keeps HA7.out hb8)
  have HK8 := Lib.hid (arr2_keeps HK7.out hb8)
  have HL8 := Lib.hid (HL7.out.later hb8)
  have HW8 := Lib.hid hw8
  have HGL := Lib.hid hgl
  clear hb hb8 hl8 hw8 hgl HAM
  go_wp2_with fail
  rw [HW8.out, HGL.out]
  go_loopw [12, 14, 57] (fun sv _ iv wr => P1At a b w8 sv iv wr) (fun _ _ iv _ => 3 - (intOf iv).toNat)
  case atStart => exact ⟨0, by omega, rfl, rfl, rfl⟩
  case round =>
    clear hk0 hk1
    obtain ⟨k, hk, rfl, rfl, rfl⟩ := hrel
    by_cases hlt : k < 3
    · obtain ⟨κ, hκ, hstep, hκ64⟩ : ∃ κ : Int, wr.cell? ⟨gl, k, none⟩ = some (.int .i64 κ) ∧ spx a b (k + 1) = spx a b k - bnd κ ∧ (-9223372036854775808 ≤ κ ∧ κ ≤ 9223372036854775807) := by
        rw [cell_of_row _ _ k _ _ _ HLI.out]
        match k, hlt with
        | 0, _ => exact ⟨a, rfl, rfl, ha64⟩
        | 1, _ => exact ⟨b, rfl, rfl, hb64⟩
        | 2, _ => exact ⟨b, rfl, rfl, hb64⟩
      have hk0 : (0 : Int) ≤ (k : Int) := by omega
      have hk1 : (k : Int) < 3 := by omega
      have hsi := spx_in a b k
      have HST := Lib.hid hstep
      generalize spx a b k = S at *
      clear hstep
      by_cases h1 : 32 < κ
      · have hd3 : decide ((32 : Int) < κ) = true := decide_eq_true h1
        have hbn : bnd κ = 32 := by unfold bnd; omega
        have hw : IntKind.i64.wrap (S - 32) = S - 32 := by rw [IntKind.wrap_i64]; omega
        rw [hbn] at HST
        clear h1 hbn
        go_wp2_with fail
        go_roundw
        case rel => exact ⟨k + 1, by omega, by go_num, by rw [HST.out], rfl⟩
        case measure => simp [intOf]; omega
      · have hd3 : decide ((32 : Int) < κ) = false := decide_eq_false h1
        by_cases h2 : 0 < κ
        · have hd4 : decide ((0 : Int) < κ) = true := decide_eq_true h2
          have hbn : bnd κ = κ := by unfold bnd; omega
          have hw : IntKind.i64.wrap (S - κ) = S - κ := by rw [IntKind.wrap_i64]; omega
          rw [hbn] at HST
          clear h1 h2 hbn
          go_wp2_with fail
          go_roundw
          case rel => exact ⟨k + 1, by omega, by go_num, by rw [HST.out], rfl⟩
          case measure => simp [intOf]; omega
        · have hd4 : decide ((0 : Int) < κ) = false := decide_eq_false h2
          have hbn : bnd κ = 0 := by unfold bnd; omega
          rw [hbn, Int.sub_zero] at HST
          clear h1 h2 hbn
          go_wp2_with fail
          go_roundw
          case rel => exact ⟨k + 1, by omega, by go_num, by rw [HST.out], rfl⟩
          case measure => simp [intOf]; omega
    · obtain rfl : k = 3 := by omega
      obtain ⟨hk0, hk1⟩ := arr2_cells HK8.out
      obtain ⟨T, hT, hsp⟩ : ∃ T, spr a b = T ∧ T = if spx a b 3 < 0 then 0 else spx a b 3 := ⟨_, rfl, spr_spx a b⟩
      have hspa := spare_any a b wr
      rw [hT] at hspa
      have HSP := Lib.hid hspa
      have hnt : (T != T) = false := by simp
      have hAFTER : True := trivial
      generalize spx a b 3 = S at *
      have hslt : (S < 0 ∧ T = 0) ∨ (¬ S < 0 ∧ T = S) := by
        by_cases h : S < 0
        · exact .inl ⟨h, by rw [hsp, if_pos h]⟩
        · exact .inr ⟨h, by rw [hsp, if_neg h]⟩
      clear hT hsp hspa hlt hk
      rcases hslt with ⟨h, rfl⟩ | ⟨h, rfl⟩
      · have hd5 : decide (S < 0) = true := decide_eq_true h
        clear h
        go_wp2_with fail
        refine HSP.out.mono ?_; rintro e w9 ⟨rfl, rfl⟩
        clear hk0 hk1 hd5
        go_wp2_with fail
        refine (sized_any n _).mono ?_; rintro e w9 ⟨rfl, rfl⟩
        rcases HCS.out with ⟨hnf, rfl, rfl, rfl⟩ | ⟨m, rfl, h33, h255, rfl, hend⟩
        · rw [decide_eq_false hnf]
          have hb0 : (((0 : UInt8).toNat : Nat) : Int) = 0 := rfl
          have HNU := Lib.hid (Er.num_of A 7 (by omega) w9 (HE.out.later HB8.out))
          clear hnf HCS
          go_wp2_with fail
          refine HNU.out.mono ?_; rintro e w10 ⟨rfl, hb⟩
          have HBz := Lib.hid (Kit.step HB8.out hb)
          clear hb
          go_wp2_with fail
          go_ret
          exact ⟨rfl, HBz.out⟩
        · rw [decide_eq_true (by omega : 33 ≤ (m : Int) ∧ (m : Int) ≤ 255)]
          have HEND := Lib.hid hend
          obtain ⟨M, hM⟩ : ∃ M, (srI G m m).length = M := ⟨_, rfl⟩
          have hM2 : (srP G m m).length = M := by rw [← hM, srI_length]
          rw [hM] at hrL1 hll ⊢
          have HM := Lib.hid hM
          have HM2 := Lib.hid hM2
          clear hend HCS hM hM2
          go_wp2_with fail
          go_loopw [15, 16] (fun kv pv wq => P2At G m w9 kv pv wq) (fun _ pv _ => m - (intOf pv).toNat)
          case atStart => exact ⟨0, Nat.zero_le _, rfl, rfl, Below.refl _ _⟩
          case round =>
            rename World => wq
            obtain ⟨p, hp, rfl, rfl, hbq⟩ := hrel
            have HBQ := Lib.hid hbq
            have hcA := found_keeps HA8.out hbq
            obtain ⟨_, hc1, hc2⟩ := found_cell hcA
            by_cases hlt : p < m
            · have hp0 : (0 : Int) ≤ (p : Int) := by omega
              have hp1 : (p : Int) < (m : Int) := by omega
              have HPW : Hid (∀ v, Calls Tryd.prog 18 #[.int .i64 (m : Int), .int .i64 (p : Int)] v fun e w' => e = .returned (.int .u8 ((Gf.al (m - 1 - p)).toNat : Int)) ∧ w' = v) := Lib.hid fun v => rplace_any m p hlt h255 v
              have HIV : Hid (∀ v, Calls Tryd.prog 17 #[.int .u8 ((Gf.al (m - 1 - p)).toNat : Int)] v fun e w' => e = .returned (.int .u8 ((vi m p).toNat : Int)) ∧ w' = v) := Lib.hid fun v => rinv5 _ (Gf.al_ne _) v
              have HEV : Hid (∀ k, Calls Tryd.prog 16 #[.slice oG G.length cG, .int .u8 ((vi m p).toNat : Int)] (wq.drewN k) fun e w' => e = .returned (.int .u8 ((evL G (vi m p)).toNat : Int)) ∧ w' = wq.drewN k) := Lib.hid fun k => reval_any G (vi m p) oG cG _ (HG.out.later (Kit.step (Kit.step HB8.out hbq) (Kit.dn' _ k)))
              by_cases he : evL G (vi m p) = 0
              · have hat := srI_at G m p hlt he
                rw [HM2.out] at hat
                have HY := Lib.hid (srP_yes he)
                obtain ⟨b1, off1, rfl, hcl⟩ := ints_cell (HL8.out.later hbq) (srP G m p).length (by rw [HM.out]; exact hat.1)
                rw [hat.2] at hcl
                have HYL : Hid ((srP G m (p + 1)).length = (srP G m p).length + 1) := Lib.hid (by rw [HY.out]; simp)
                obtain ⟨K, hK⟩ : ∃ K, (srP G m p).length = K := ⟨_, rfl⟩
                rw [hK] at hat hcl HYL ⊢
                have hK0 : (0 : Int) ≤ (K : Int) := by omega
                have hK1 : (K : Int) < (M : Int) := by have := hat.1; omega
                have hge : decide ((M : Int) ≤ (K : Int)) = false := decide_eq_false (by omega)
                have hge' : decide (M ≤ K) = false := decide_eq_false (by omega)
                have hwk : IntKind.i64.wrap ((K : Int) + 1) = (K : Int) + 1 := by rw [IntKind.wrap_i64]; omega
                have hpp : ((p : Int) != (p : Int)) = false := by simp
                rw [he] at HEV
                generalize Gf.al (m - 1 - p) = xa at HPW HIV
                generalize vi m p = xv at HIV HEV
                have hz0 : ((((0 : UInt8).toNat : Nat) : Int) == 0) = true := rfl
                have hz1 : (((0 : UInt8).toNat : Nat) : Int) = 0 := rfl
                clear hbq hcA he hat hK HY
                go_wp2_with fail
                go_quiet ((first | (go_at_call 18; exact Calls.quiet_of_same (HPW.out _)) | (go_at_call 17; exact Calls.quiet_of_same (HIV.out _)) | (go_at_call 16; exact Calls.quiet_of_same (HEV.out _))))
                go_wp2_with fail
                go_roundw
                case rel => exact ⟨p + 1, by omega, by go_num, by rw [HYL.out]; go_num, HBQ.out.trans ⟨rfl, rfl, rfl, Nat.le_refl _, fun _ _ => rfl⟩⟩
                case measure => simp [intOf]; omega
              · have HNOP := Lib.hid (srP_no he)
                have hev : ¬ (evL G (vi m p)).toNat = 0 := fun h => he (Gf.u8_ext h)
                have hz0 : (((evL G (vi m p)).toNat : Int) == 0) = false := beq_false_of_ne (by omega)
                have hz1 : decide (((evL G (vi m p)).toNat : Int) = 0) = false := decide_eq_false (by omega)
                have hz2 : ¬ ((evL G (vi m p)).toNat : Int) = 0 := by omega
                generalize Gf.al (m - 1 - p) = xa at HPW HIV
                generalize evL G (vi m p) = xe at HEV hz0 hz1 hz2
                generalize vi m p = xv at HIV HEV
                clear hbq hcA he hev
                go_wp2_with fail
                go_quiet ((first | (go_at_call 18; exact Calls.quiet_of_same (HPW.out _)) | (go_at_call 17; exact Calls.quiet_of_same (HIV.out _)) | (go_at_call 16; exact Calls.quiet_of_same (HEV.out _))))
                go_wp2_with fail
                go_roundw
                case rel => exact ⟨p + 1, by omega, by go_num, by rw [HNOP.out], HBQ.out.trans ⟨rfl, rfl, rfl, Nat.le_refl _, fun _ _ => rfl⟩⟩
                case measure => simp [intOf]; omega
            · obtain rfl : p = m := by omega
              rw [HM2.out]
              have hMM : ((M : Int) != (M : Int)) = false := by simp
              have HBW := Lib.hid (Kit.step HB8.out hbq)
              have HAW := Lib.hid hcA
              clear hbq hcA hlt hc1 hc2
              rcases HEND.out with ⟨hq, rfl, rfl⟩ | ⟨r, hr, rfl, hend⟩
              · have hb0 : (((0 : UInt8).toNat : Nat) : Int) = 0 := rfl
                have HNU := Lib.hid (Er.num_of A 0 (by omega) wq (HE.out.later HBW.out))
                by_cases hq0 : q < 0
                · have hq1 : decide (q < 0) = true := decide_eq_true hq0
                  clear hq hq0
                  go_wp2_with fail
                  refine HNU.out.mono ?_; rintro e w10 ⟨rfl, hb⟩
                  have HBz := Lib.hid (Kit.step HBW.out hb)
                  clear hb
                  go_wp2_with fail
                  go_ret
                  exact ⟨rfl, HBz.out⟩
                · have hq1 : decide (q < 0) = false := decide_eq_false hq0
                  have hq2 : decide ((p : Int) ≤ q) = true := decide_eq_true (by omega)
                  clear hq hq0
                  go_wp2_with fail
                  refine HNU.out.mono ?_; rintro e w10 ⟨rfl, hb⟩
                  have HBz := Lib.hid (Kit.step HBW.out hb)
                  clear hb
                  go_wp2_with fail
                  go_ret
                  exact ⟨rfl, HBz.out⟩
              · have hq1 : decide ((r : Int) < 0) = false := decide_eq_false (by omega)
                have hq2 : decide ((p : Int) ≤ (r : Int)) = false := decide_eq_false (by omega)
                have hq2' : decide (p ≤ r) = false := decide_eq_false (by omega)
                have HPW := Lib.hid (rplace_any p r hr h255 wq)
                have hiv := rinv5 (Gf.al (p - 1 - r)) (Gf.al_ne _) wq
                obtain ⟨y, hy⟩ : ∃ y, vi p r = y := ⟨_, rfl⟩
                have hye : Gf.gd 1 (Gf.al (p - 1 - r)) = y := hy
                have hyn : y ≠ 0 := by rw [← hy]; exact vi_ne _ _
                rw [hye] at hiv
                have HIV := Lib.hid hiv
                unfold amt at hend
                rw [hy] at hend
                have HN2 := Lib.hid hend
                have HYN := Lib.hid hyn
                obtain ⟨xa, hxa⟩ : ∃ xa, Gf.al (p - 1 - r) = xa := ⟨_, rfl⟩
                rw [hxa] at HPW HIV HN2
                clear hiv hend hy hye hyn hr hxa
                go_wp2_with fail
                refine HPW.out.mono ?_; rintro e w10 ⟨rfl, rfl⟩
                go_wp2_with fail
                refine HIV.out.mono ?_; rintro e w11 ⟨rfl, rfl⟩
                go_wp2_with fail
                go_loopw [19, 20] (fun sv iv wz => P3At G y w11 sv iv wz) (fun _ iv _ => 70 - (intOf iv).toNat)
                case atStart => exact ⟨0, by omega, rfl, rfl, Below.refl _ _⟩
                case round =>
                  rename World => wz
                  obtain ⟨j, hj, rfl, rfl, hbz⟩ := hrel
                  have HBZ := Lib.hid hbz
                  obtain ⟨_, hc1, hc2⟩ := found_cell (found_keeps HAW.out hbz)
                  by_cases hil : 2 * j + 1 < G.length
                  · obtain ⟨b1, off1, hoe, hblt, hcell⟩ := (HG.out.later (Kit.step HBW.out hbz)).cells (by simp; omega)
                    have hcg : wz.cell? ⟨b1, off1 + (2 * j + 1), none⟩ = some (.int .u8 ((co G (2 * j + 1)).toNat : Int)) := hcell (2 * j + 1) _ (bytesV_get G (2 * j + 1) hil)
                    have HSV := Lib.hid (slv_step G y j)
                    obtain ⟨I, hI⟩ : ∃ I, 2 * j + 1 = I := ⟨_, rfl⟩
                    obtain ⟨J, hJ⟩ : ∃ J, 2 * j = J := ⟨_, rfl⟩
                    rw [hI] at hcg hil ⊢
                    have hI0 : (0 : Int) ≤ (I : Int) := by omega
                    have hI1 : (I : Int) < (G.length : Int) := by omega
                    have hwi : IntKind.i64.wrap ((I : Int) - 1) = (J : Int) := by rw [IntKind.wrap_i64]; omega
                    have hIJ : (I : Int) - 1 = (J : Int) := by omega
                    have hw2 : IntKind.i64.wrap ((I : Int) + 2) = (I : Int) + 2 := by rw [IntKind.wrap_i64]; omega
                    have HPX : Hid (∀ v, Calls Tryd.prog 20 #[.int .u8 (y.toNat : Int), .int .i64 (J : Int)] v fun e w' => e = .returned (.int .u8 ((Gf.px y J).toNat : Int)) ∧ w' = v) := Lib.hid fun v => rpow5 y HYN.out J (by omega) v
                    have HMU : Hid (∀ v, Calls Tryd.prog 19 #[.int .u8 ((co G I).toNat : Int), .int .u8 ((Gf.px y J).toNat : Int)] v fun e w' => e = .returned (.int .u8 ((Gf.gm (co G I) (Gf.px y J)).toNat : Int)) ∧ w' = v) := Lib.hid fun v => rmul5 _ _ v
                    have hx := u8c (slv G y j) (Gf.gm (co G I) (Gf.px y J))
                    rw [hI, hJ] at HSV
                    rw [← HSV.out] at hx
                    have hs1 := UInt8.toNat_lt (slv G y (j + 1))
                    have hs2 := UInt8.toNat_lt (slv G y j)
                    have hs3 := UInt8.toNat_lt (Gf.gm (co G I) (Gf.px y J))
                    have HII := Lib.hid hI
                    have HS' : Hid (∃ S', slv G y (j + 1) = S') := Lib.hid ⟨_, rfl⟩
                    obtain ⟨S', hS'⟩ := HS'.out
                    rw [hS'] at hx hs1
                    have HSP2 := Lib.hid hS'
                    generalize Gf.gm (co G I) (Gf.px y J) = pr at *
                    generalize Gf.px y J = px at *
                    generalize slv G y j = S0 at *
                    generalize co G I = gI at *
                    subst hoe
                    clear hbz hblt hcell HSV hI hJ hS' hj
                    go_wp2_with fail
                    go_quiet ((first | (go_at_call 20; exact Calls.quiet_of_same (HPX.out _)) | (go_at_call 19; exact Calls.quiet_of_same (HMU.out _))))
                    go_wp2_with fail
                    go_roundw
                    case rel => exact ⟨j + 1, by have := HII.out; omega, by have := HII.out; go_num, by rw [HSP2.out], HBZ.out.trans ⟨rfl, rfl, rfl, Nat.le_refl _, fun _ _ => rfl⟩⟩
                    case measure => simp [intOf]; omega
                  · have hse := slv_end G y j (by omega)
                    rw [hse]
                    have hnl : decide (((2 * j + 1 : Nat) : Int) < (G.length : Int)) = false := decide_eq_false (by omega)
                    obtain ⟨I, hI⟩ : ∃ I, 2 * j + 1 = I := ⟨_, rfl⟩
                    rw [hI] at hnl hil ⊢
                    have hnl' : decide (I < G.length) = false := decide_eq_false hil
                    have HBY := Lib.hid (Kit.step HBW.out hbz)
                    have hsl := UInt8.toNat_lt (evL (slopeL G) y)
                    clear hse hI hil hbz hj
                    rcases HN2.out with ⟨hs0, rfl, rfl⟩ | ⟨hs0, rfl, rfl⟩
                    · rw [hs0]
                      have hb0 : (((0 : UInt8).toNat : Nat) : Int) = 0 := rfl
                      have HNU := Lib.hid (Er.num_of A 19 (by omega) wz (HE.out.later HBY.out))
                      clear hs0
                      go_wp2_with fail
                      refine HNU.out.mono ?_; rintro e w12 ⟨rfl, hb⟩
                      have HBx := Lib.hid (Kit.step HBY.out hb)
                      clear hb
                      go_wp2_with fail
                      go_ret
                      exact ⟨rfl, HBx.out⟩
                    · have hsn : ¬ (evL (slopeL G) y).toNat = 0 := fun h => hs0 (Gf.u8_ext h)
                      have hz0 : (((evL (slopeL G) y).toNat : Int) == 0) = false := beq_false_of_ne (by omega)
                      have hz1 : decide (((evL (slopeL G) y).toNat : Int) = 0) = false := decide_eq_false (by omega)
                      have hz2 : ¬ ((evL (slopeL G) y).toNat : Int) = 0 := by omega
                      have HIS := Lib.hid (rinv5 (evL (slopeL G) y) hs0 wz)
                      have HEO := Lib.hid (reval_any O y oO cO wz (HO.out.later HBY.out))
                      have hgd : Gf.gd (Gf.gm xa (evL O y)) (evL (slopeL G) y) = Gf.gm xa (Gf.gm (evL O y) (Gf.gd 1 (evL (slopeL G) y))) := gd_only hs0 (by
                        rw [Gf.gm_assoc, Gf.gm_assoc, Gf.gd_gm _ _ hs0, Gf.gm_one])
                      have HGD := Lib.hid hgd
                      generalize evL (slopeL G) y = sl at *
                      generalize evL O y = eo at *
                      clear hs0 hsn hgd
                      go_wp2_with fail
                      refine HEO.out.mono ?_; rintro e w12 ⟨rfl, rfl⟩
                      go_wp2_with fail
                      refine HIS.out.mono ?_; rintro e w13 ⟨rfl, rfl⟩
                      go_wp2_with fail
                      refine (rmul5 _ _ _).mono ?_; rintro e w14 ⟨rfl, rfl⟩
                      go_wp2_with fail
                      refine (rmul5 _ _ _).mono ?_; rintro e w15 ⟨rfl, rfl⟩
                      rw [← HGD.out]
                      go_wp2_with fail
                      go_ret
                      exact ⟨rfl, HBY.out⟩
      · have hd5 : decide (T < 0) = false := decide_eq_false h
        clear h
        go_wp2_with fail
        refine HSP.out.mono ?_; rintro e w9 ⟨rfl, rfl⟩
        clear hk0 hk1 hd5
        go_wp2_with fail
        refine (sized_any n _).mono ?_; rintro e w9 ⟨rfl, rfl⟩
        rcases HCS.out with ⟨hnf, rfl, rfl, rfl⟩ | ⟨m, rfl, h33, h255, rfl, hend⟩
        · rw [decide_eq_false hnf]
          have hb0 : (((0 : UInt8).toNat : Nat) : Int) = 0 := rfl
          have HNU := Lib.hid (Er.num_of A 7 (by omega) w9 (HE.out.later HB8.out))
          clear hnf HCS
          go_wp2_with fail
          refine HNU.out.mono ?_; rintro e w10 ⟨rfl, hb⟩
          have HBz := Lib.hid (Kit.step HB8.out hb)
          clear hb
          go_wp2_with fail
          go_ret
          exact ⟨rfl, HBz.out⟩
        · rw [decide_eq_true (by omega : 33 ≤ (m : Int) ∧ (m : Int) ≤ 255)]
          have HEND := Lib.hid hend
          obtain ⟨M, hM⟩ : ∃ M, (srI G m m).length = M := ⟨_, rfl⟩
          have hM2 : (srP G m m).length = M := by rw [← hM, srI_length]
          rw [hM] at hrL1 hll ⊢
          have HM := Lib.hid hM
          have HM2 := Lib.hid hM2
          clear hend HCS hM hM2
          go_wp2_with fail
          go_loopw [15, 16] (fun kv pv wq => P2At G m w9 kv pv wq) (fun _ pv _ => m - (intOf pv).toNat)
          case atStart => exact ⟨0, Nat.zero_le _, rfl, rfl, Below.refl _ _⟩
          case round =>
            rename World => wq
            obtain ⟨p, hp, rfl, rfl, hbq⟩ := hrel
            have HBQ := Lib.hid hbq
            have hcA := found_keeps HA8.out hbq
            obtain ⟨_, hc1, hc2⟩ := found_cell hcA
            by_cases hlt : p < m
            · have hp0 : (0 : Int) ≤ (p : Int) := by omega
              have hp1 : (p : Int) < (m : Int) := by omega
              have HPW : Hid (∀ v, Calls Tryd.prog 18 #[.int .i64 (m : Int), .int .i64 (p : Int)] v fun e w' => e = .returned (.int .u8 ((Gf.al (m - 1 - p)).toNat : Int)) ∧ w' = v) := Lib.hid fun v => rplace_any m p hlt h255 v
              have HIV : Hid (∀ v, Calls Tryd.prog 17 #[.int .u8 ((Gf.al (m - 1 - p)).toNat : Int)] v fun e w' => e = .returned (.int .u8 ((vi m p).toNat : Int)) ∧ w' = v) := Lib.hid fun v => rinv5 _ (Gf.al_ne _) v
              have HEV : Hid (∀ k, Calls Tryd.prog 16 #[.slice oG G.length cG, .int .u8 ((vi m p).toNat : Int)] (wq.drewN k) fun e w' => e = .returned (.int .u8 ((evL G (vi m p)).toNat : Int)) ∧ w' = wq.drewN k) := Lib.hid fun k => reval_any G (vi m p) oG cG _ (HG.out.later (Kit.step (Kit.step HB8.out hbq) (Kit.dn' _ k)))
              by_cases he : evL G (vi m p) = 0
              · have hat := srI_at G m p hlt he
                rw [HM2.out] at hat
                have HY := Lib.hid (srP_yes he)
                obtain ⟨b1, off1, rfl, hcl⟩ := ints_cell (HL8.out.later hbq) (srP G m p).length (by rw [HM.out]; exact hat.1)
                rw [hat.2] at hcl
                have HYL : Hid ((srP G m (p + 1)).length = (srP G m p).length + 1) := Lib.hid (by rw [HY.out]; simp)
                obtain ⟨K, hK⟩ : ∃ K, (srP G m p).length = K := ⟨_, rfl⟩
                rw [hK] at hat hcl HYL ⊢
                have hK0 : (0 : Int) ≤ (K : Int) := by omega
                have hK1 : (K : Int) < (M : Int) := by have := hat.1; omega
                have hge : decide ((M : Int) ≤ (K : Int)) = false := decide_eq_false (by omega)
                have hge' : decide (M ≤ K) = false := decide_eq_false (by omega)
                have hwk : IntKind.i64.wrap ((K : Int) + 1) = (K : Int) + 1 := by rw [IntKind.wrap_i64]; omega
                have hpp : ((p : Int) != (p : Int)) = false := by simp
                rw [he] at HEV
                generalize Gf.al (m - 1 - p) = xa at HPW HIV
                generalize vi m p = xv at HIV HEV
                have hz0 : ((((0 : UInt8).toNat : Nat) : Int) == 0) = true := rfl
                have hz1 : (((0 : UInt8).toNat : Nat) : Int) = 0 := rfl
                clear hbq hcA he hat hK HY
                go_wp2_with fail
                go_quiet ((first | (go_at_call 18; exact Calls.quiet_of_same (HPW.out _)) | (go_at_call 17; exact Calls.quiet_of_same (HIV.out _)) | (go_at_call 16; exact Calls.quiet_of_same (HEV.out _))))
                go_wp2_with fail
                go_roundw
                case rel => exact ⟨p + 1, by omega, by go_num, by rw [HYL.out]; go_num, HBQ.out.trans ⟨rfl, rfl, rfl, Nat.le_refl _, fun _ _ => rfl⟩⟩
                case measure => simp [intOf]; omega
              · have HNOP := Lib.hid (srP_no he)
                have hev : ¬ (evL G (vi m p)).toNat = 0 := fun h => he (Gf.u8_ext h)
                have hz0 : (((evL G (vi m p)).toNat : Int) == 0) = false := beq_false_of_ne (by omega)
                have hz1 : decide (((evL G (vi m p)).toNat : Int) = 0) = false := decide_eq_false (by omega)
                have hz2 : ¬ ((evL G (vi m p)).toNat : Int) = 0 := by omega
                generalize Gf.al (m - 1 - p) = xa at HPW HIV
                generalize evL G (vi m p) = xe at HEV hz0 hz1 hz2
                generalize vi m p = xv at HIV HEV
                clear hbq hcA he hev
                go_wp2_with fail
                go_quiet ((first | (go_at_call 18; exact Calls.quiet_of_same (HPW.out _)) | (go_at_call 17; exact Calls.quiet_of_same (HIV.out _)) | (go_at_call 16; exact Calls.quiet_of_same (HEV.out _))))
                go_wp2_with fail
                go_roundw
                case rel => exact ⟨p + 1, by omega, by go_num, by rw [HNOP.out], HBQ.out.trans ⟨rfl, rfl, rfl, Nat.le_refl _, fun _ _ => rfl⟩⟩
                case measure => simp [intOf]; omega
            · obtain rfl : p = m := by omega
              rw [HM2.out]
              have hMM : ((M : Int) != (M : Int)) = false := by simp
              have HBW := Lib.hid (Kit.step HB8.out hbq)
              have HAW := Lib.hid hcA
              clear hbq hcA hlt hc1 hc2
              rcases HEND.out with ⟨hq, rfl, rfl⟩ | ⟨r, hr, rfl, hend⟩
              · have hb0 : (((0 : UInt8).toNat : Nat) : Int) = 0 := rfl
                have HNU := Lib.hid (Er.num_of A 0 (by omega) wq (HE.out.later HBW.out))
                by_cases hq0 : q < 0
                · have hq1 : decide (q < 0) = true := decide_eq_true hq0
                  clear hq hq0
                  go_wp2_with fail
                  refine HNU.out.mono ?_; rintro e w10 ⟨rfl, hb⟩
                  have HBz := Lib.hid (Kit.step HBW.out hb)
                  clear hb
                  go_wp2_with fail
                  go_ret
                  exact ⟨rfl, HBz.out⟩
                · have hq1 : decide (q < 0) = false := decide_eq_false hq0
                  have hq2 : decide ((p : Int) ≤ q) = true := decide_eq_true (by omega)
                  clear hq hq0
                  go_wp2_with fail
                  refine HNU.out.mono ?_; rintro e w10 ⟨rfl, hb⟩
                  have HBz := Lib.hid (Kit.step HBW.out hb)
                  clear hb
                  go_wp2_with fail
                  go_ret
                  exact ⟨rfl, HBz.out⟩
              · have hq1 : decide ((r : Int) < 0) = false := decide_eq_false (by omega)
                have hq2 : decide ((p : Int) ≤ (r : Int)) = false := decide_eq_false (by omega)
                have hq2' : decide (p ≤ r) = false := decide_eq_false (by omega)
                have HPW := Lib.hid (rplace_any p r hr h255 wq)
                have hiv := rinv5 (Gf.al (p - 1 - r)) (Gf.al_ne _) wq
                obtain ⟨y, hy⟩ : ∃ y, vi p r = y := ⟨_, rfl⟩
                have hye : Gf.gd 1 (Gf.al (p - 1 - r)) = y := hy
                have hyn : y ≠ 0 := by rw [← hy]; exact vi_ne _ _
                rw [hye] at hiv
                have HIV := Lib.hid hiv
                unfold amt at hend
                rw [hy] at hend
                have HN2 := Lib.hid hend
                have HYN := Lib.hid hyn
                obtain ⟨xa, hxa⟩ : ∃ xa, Gf.al (p - 1 - r) = xa := ⟨_, rfl⟩
                rw [hxa] at HPW HIV HN2
                clear hiv hend hy hye hyn hr hxa
                go_wp2_with fail
                refine HPW.out.mono ?_; rintro e w10 ⟨rfl, rfl⟩
                go_wp2_with fail
                refine HIV.out.mono ?_; rintro e w11 ⟨rfl, rfl⟩
                go_wp2_with fail
                go_loopw [19, 20] (fun sv iv wz => P3At G y w11 sv iv wz) (fun _ iv _ => 70 - (intOf iv).toNat)
                case atStart => exact ⟨0, by omega, rfl, rfl, Below.refl _ _⟩
                case round =>
                  rename World => wz
                  obtain ⟨j, hj, rfl, rfl, hbz⟩ := hrel
                  have HBZ := Lib.hid hbz
                  obtain ⟨_, hc1, hc2⟩ := found_cell (found_keeps HAW.out hbz)
                  by_cases hil : 2 * j + 1 < G.length
                  · obtain ⟨b1, off1, hoe, hblt, hcell⟩ := (HG.out.later (Kit.step HBW.out hbz)).cells (by simp; omega)
                    have hcg : wz.cell? ⟨b1, off1 + (2 * j + 1), none⟩ = some (.int .u8 ((co G (2 * j + 1)).toNat : Int)) := hcell (2 * j + 1) _ (bytesV_get G (2 * j + 1) hil)
                    have HSV := Lib.hid (slv_step G y j)
                    obtain ⟨I, hI⟩ : ∃ I, 2 * j + 1 = I := ⟨_, rfl⟩
                    obtain ⟨J, hJ⟩ : ∃ J, 2 * j = J := ⟨_, rfl⟩
                    rw [hI] at hcg hil ⊢
                    have hI0 : (0 : Int) ≤ (I : Int) := by omega
                    have hI1 : (I : Int) < (G.length : Int) := by omega
                    have hwi : IntKind.i64.wrap ((I : Int) - 1) = (J : Int) := by rw [IntKind.wrap_i64]; omega
                    have hIJ : (I : Int) - 1 = (J : Int) := by omega
                    have hw2 : IntKind.i64.wrap ((I : Int) + 2) = (I : Int) + 2 := by rw [IntKind.wrap_i64]; omega
                    have HPX : Hid (∀ v, Calls Tryd.prog 20 #[.int .u8 (y.toNat : Int), .int .i64 (J : Int)] v fun e w' => e = .returned (.int .u8 ((Gf.px y J).toNat : Int)) ∧ w' = v) := Lib.hid fun v => rpow5 y HYN.out J (by omega) v
                    have HMU : Hid (∀ v, Calls Tryd.prog 19 #[.int .u8 ((co G I).toNat : Int), .int .u8 ((Gf.px y J).toNat : Int)] v fun e w' => e = .returned (.int .u8 ((Gf.gm (co G I) (Gf.px y J)).toNat : Int)) ∧ w' = v) := Lib.hid fun v => rmul5 _ _ v
                    have hx := u8c (slv G y j) (Gf.gm (co G I) (Gf.px y J))
                    rw [hI, hJ] at HSV
                    rw [← HSV.out] at hx
                    have hs1 := UInt8.toNat_lt (slv G y (j + 1))
                    have hs2 := UInt8.toNat_lt (slv G y j)
                    have hs3 := UInt8.toNat_lt (Gf.gm (co G I) (Gf.px y J))
                    have HII := Lib.hid hI
                    have HS' : Hid (∃ S', slv G y (j + 1) = S') := Lib.hid ⟨_, rfl⟩
                    obtain ⟨S', hS'⟩ := HS'.out
                    rw [hS'] at hx hs1
                    have HSP2 := Lib.hid hS'
                    generalize Gf.gm (co G I) (Gf.px y J) = pr at *
                    generalize Gf.px y J = px at *
                    generalize slv G y j = S0 at *
                    generalize co G I = gI at *
                    subst hoe
                    clear hbz hblt hcell HSV hI hJ hS' hj
                    go_wp2_with fail
                    go_quiet ((first | (go_at_call 20; exact Calls.quiet_of_same (HPX.out _)) | (go_at_call 19; exact Calls.quiet_of_same (HMU.out _))))
                    go_wp2_with fail
                    go_roundw
                    case rel => exact ⟨j + 1, by have := HII.out; omega, by have := HII.out; go_num, by rw [HSP2.out], HBZ.out.trans ⟨rfl, rfl, rfl, Nat.le_refl _, fun _ _ => rfl⟩⟩
                    case measure => simp [intOf]; omega
                  · have hse := slv_end G y j (by omega)
                    rw [hse]
                    have hnl : decide (((2 * j + 1 : Nat) : Int) < (G.length : Int)) = false := decide_eq_false (by omega)
                    obtain ⟨I, hI⟩ : ∃ I, 2 * j + 1 = I := ⟨_, rfl⟩
                    rw [hI] at hnl hil ⊢
                    have hnl' : decide (I < G.length) = false := decide_eq_false hil
                    have HBY := Lib.hid (Kit.step HBW.out hbz)
                    have hsl := UInt8.toNat_lt (evL (slopeL G) y)
                    clear hse hI hil hbz hj
                    rcases HN2.out with ⟨hs0, rfl, rfl⟩ | ⟨hs0, rfl, rfl⟩
                    · rw [hs0]
                      have hb0 : (((0 : UInt8).toNat : Nat) : Int) = 0 := rfl
                      have HNU := Lib.hid (Er.num_of A 19 (by omega) wz (HE.out.later HBY.out))
                      clear hs0
                      go_wp2_with fail
                      refine HNU.out.mono ?_; rintro e w12 ⟨rfl, hb⟩
                      have HBx := Lib.hid (Kit.step HBY.out hb)
                      clear hb
                      go_wp2_with fail
                      go_ret
                      exact ⟨rfl, HBx.out⟩
                    · have hsn : ¬ (evL (slopeL G) y).toNat = 0 := fun h => hs0 (Gf.u8_ext h)
                      have hz0 : (((evL (slopeL G) y).toNat : Int) == 0) = false := beq_false_of_ne (by omega)
                      have hz1 : decide (((evL (slopeL G) y).toNat : Int) = 0) = false := decide_eq_false (by omega)
                      have hz2 : ¬ ((evL (slopeL G) y).toNat : Int) = 0 := by omega
                      have HIS := Lib.hid (rinv5 (evL (slopeL G) y) hs0 wz)
                      have HEO := Lib.hid (reval_any O y oO cO wz (HO.out.later HBY.out))
                      have hgd : Gf.gd (Gf.gm xa (evL O y)) (evL (slopeL G) y) = Gf.gm xa (Gf.gm (evL O y) (Gf.gd 1 (evL (slopeL G) y))) := gd_only hs0 (by
                        rw [Gf.gm_assoc, Gf.gm_assoc, Gf.gd_gm _ _ hs0, Gf.gm_one])
                      have HGD := Lib.hid hgd
                      generalize evL (slopeL G) y = sl at *
                      generalize evL O y = eo at *
                      clear hs0 hsn hgd
                      go_wp2_with fail
                      refine HEO.out.mono ?_; rintro e w12 ⟨rfl, rfl⟩
                      go_wp2_with fail
                      refine HIS.out.mono ?_; rintro e w13 ⟨rfl, rfl⟩
                      go_wp2_with fail
                      refine (rmul5 _ _ _).mono ?_; rintro e w14 ⟨rfl, rfl⟩
                      go_wp2_with fail
                      refine (rmul5 _ _ _).mono ?_; rintro e w15 ⟨rfl, rfl⟩
                      rw [← HGD.out]
                      go_wp2_with fail
                      go_ret
                      exact ⟨rfl, HBY.out⟩
theorem pt_walk (x0 n q a b : Int) (G O : List UInt8) (oG oO : Option Addr) (cG cO : Nat) (w : World) (A : Nat → Addr) (hE : Er.Errs w A) (hG : RowIs w oG (bytesV G) cG) (hO : RowIs w oO (bytesV O) cO)
    (hn : (Lit.int .i64 n).wf = true) (ha : (Lit.int .i64 a).wf = true) (hb : (Lit.int .i64 b).wf = true) :
    Calls Tryd.prog 5 #[.agg #[.int .i64 x0, .slice oG G.length cG, .slice oO O.length cO], .agg #[.int .i64 n, .int .i64 q], .agg #[.int .i64 a, .int .i64 b]] w fun e w' => e = .returned (.bool true) ∧ Below w.heap.size w w' := by
  have h1 := hG.le
  have h2 := hG.cap
  have h3 := hO.le
  have h4 := hO.cap
  simp only [bytesV_length] at h1 h3
  unfold maxLen at h2 h4
  have hn64 := i64_wf hn
  have ha64 := i64_wf ha
  have hb64 := i64_wf hb
  by_cases hl : 60 < G.length ∨ 60 < O.length
  · exact pt_long x0 n q a b _ _ oG oO cG cO w hl (by omega) (by omega)
  · by_cases hf : 33 ≤ n ∧ n ≤ 255
    · obtain ⟨m, rfl⟩ := Int.eq_ofNat_of_zero_le (show 0 ≤ n by omega)
      have h33 : 33 ≤ m := by omega
      have h255 : m ≤ 255 := by omega
      have hsr : ∀ v, Below w.heap.size w v → Calls Tryd.prog 12 #[.slice oG G.length cG, .int .i64 (m : Int)] v fun e w' => ∃ x, e = .returned x ∧ IntsV (srI G m m) x w' ∧ Below v.heap.size v w' := fun v hv =>
        (search_any G m cG oG v (hG.later hv) h33 h255).mono fun e w' ⟨x, B, h1, _, h3, h4⟩ => ⟨x, h1, owns_ints h3 rfl, h4⟩
      have hll : (srI G m m).length ≤ 300 := by rw [srI_length]; have := srP_le G m m; omega
      by_cases hq : q < 0 ∨ (m : Int) ≤ q
      · exact pt_all x0 m q a b G O oG oO cG cO w A hE hG hO (by omega) (by omega) hn64 ha64 hb64 _ 0 _ hll hsr
          (fun v hv => amount_range _ _ _ m q v _ _ _ _ h33 h255 hq (hE.later hv).c0 (hE.later hv).c19) (.inr ⟨m, rfl, h33, h255, rfl, .inl ⟨hq, rfl, rfl⟩⟩)
      · obtain ⟨p, rfl⟩ := Int.eq_ofNat_of_zero_le (show 0 ≤ q by omega)
        have hp : p < m := by omega
        by_cases h0 : evL (slopeL G) (vi m p) = 0
        · exact pt_all x0 m p a b G O oG oO cG cO w A hE hG hO (by omega) (by omega) hn64 ha64 hb64 _ 0 _ hll hsr
            (fun v hv => amount_zero G O _ oG oO cG cO m p v (hG.later hv) (hO.later hv) h33 h255 hp (by omega) h0 _ _ (hE.later hv).c19) (.inr ⟨m, rfl, h33, h255, rfl, .inr ⟨p, hp, rfl, .inl ⟨h0, rfl, rfl⟩⟩⟩)
        · exact pt_all x0 m p a b G O oG oO cG cO w A hE hG hO (by omega) (by omega) hn64 ha64 hb64 _ _ _ hll hsr
            (fun v hv => amount_ok G O _ oG oO cG cO m p v (hG.later hv) (hO.later hv) h33 h255 hp (by omega) h0) (.inr ⟨m, rfl, h33, h255, rfl, .inr ⟨p, hp, rfl, .inr ⟨h0, rfl, rfl⟩⟩⟩)
    · exact pt_all x0 n q a b G O oG oO cG cO w A hE hG hO (by omega) (by omega) hn64 ha64 hb64 [] 0 _ (by simp)
        (fun v hv => (search_bad n _ cG oG v hf).mono fun e w' ⟨h1, h2⟩ => ⟨_, h1, ⟨none, 0, rfl, by simp, by simp, fun _ => rfl, fun h => by simp at h⟩, by rw [h2]; exact Below.refl _ _⟩)
        (fun v hv => amount_size _ _ _ n q v _ _ hf (hE.later hv).c7) (.inl ⟨hf, rfl, rfl, rfl⟩)
end Go.Proofs.YtgchfijeiggimaaDoor
