/- The code's amount at a place, and what is left of the parity. -/
import Derived.Test.YtgchfijeiggimaaDoorSe
namespace Go.Proofs.YtgchfijeiggimaaDoor
open Go.RowKit
set_option linter.unusedVariables false
set_option linter.unusedSimpArgs false
theorem cell_later {W W' : World} {g : Nat} {v : Value} (hb : Below W.heap.size W W') (hc : W.cell? ⟨g, 0, none⟩ = some v) : W'.cell? ⟨g, 0, none⟩ = some v := by
  have hlt : g < W.heap.size := by
    unfold World.cell? at hc
    cases hh : W.heap[g]? with
    | none => simp [hh] at hc
    | some o => exact (Array.getElem?_eq_some_iff.1 hh).1
  rw [hb.cell (p := ⟨g, 0, none⟩) hlt]; exact hc
theorem evalr_rv {p : List UInt8} {a : Value} {x : UInt8} {v : World} (hp : RowV p a v) : Calls Tryd.prog 33 #[a, .int .u8 (x.toNat : Int)] v fun e w' => e = .returned (.int .u8 ((evL p x).toNat : Int)) ∧ Below v.heap.size v w' := by
  obtain ⟨o, c, rfl, hp⟩ := hp
  exact eval_any p x o c v hp
theorem mulr_u8 (x y : UInt8) (v : World) : Calls Tryd.prog 36 #[.int .u8 (x.toNat : Int), .int .u8 (y.toNat : Int)] v fun e w' => e = .returned (.int .u8 ((Gf.gm x y).toNat : Int)) ∧ w' = v := by
  refine (mul_nat x.toNat y.toNat (UInt8.toNat_lt x) (UInt8.toNat_lt y) v).mono ?_
  rintro e w' ⟨rfl, rfl⟩
  exact ⟨by rw [Gf.gm_nat], rfl⟩
theorem divr_u8 (x y : UInt8) (hy : y ≠ 0) (v : World) : Calls Tryd.prog 35 #[.int .u8 (x.toNat : Int), .int .u8 (y.toNat : Int)] v fun e w' => e = .returned (.tuple #[.int .u8 ((Gf.gd x y).toNat : Int), .nilIface]) ∧ w' = v := by
  refine (fdiv_any x.toNat y.toNat (UInt8.toNat_lt x) (fun e => hy (Gf.u8_ext e)) (UInt8.toNat_lt y) v).mono ?_
  rintro e w' ⟨rfl, rfl⟩
  exact ⟨by rw [Gf.gd_nat], rfl⟩
set_option maxRecDepth 100000 in
theorem amount_size (x0 x1 x2 : Value) (n p : Int) (w : World) (u : TypeId) (v : Value) (h : ¬ (33 ≤ n ∧ n ≤ 255)) (hE : w.cell? ⟨0, 0, none⟩ = some (.iface u v)) :
    Calls Tryd.prog 13 #[.agg #[x0, x1, x2], .int .i64 n, .int .i64 p] w fun e w' => e = .returned (.tuple #[.int .u8 0, .iface u v]) ∧ Below w.heap.size w w' := by
  obtain ⟨w1, hw1⟩ : ∃ w1, w.alloc (.cells #[x0, x1, x2] 44) = w1 := ⟨_, rfl⟩
  have hb1 : Below w.heap.size w w1 := by rw [← hw1]; exact (Below.refl _ _).alloc (Nat.le_refl _) _
  have hE1 : w1.cell? ⟨0, 0, none⟩ = some (.iface u v) := cell_later hb1 hE
  have hf := rpfits_any n w1
  rw [decide_eq_false h] at hf
  have HF := Lib.hid hf
  have HB1 := Lib.hid hb1
  have HW1 := Lib.hid hw1
  clear hf h hE hb1 hw1
  go_enter Tryd.func13, Tryd.ntmps13
  go_wp2_with (rw [HW1.out])
  refine HF.out.mono ?_; rintro e w' ⟨rfl, rfl⟩
  go_wp2_with fail
  go_quiet (fail)
  go_wp2
  go_ret2
  exact ⟨rfl, HB1.out.trans ⟨rfl, rfl, rfl, Nat.le_refl _, fun _ _ => rfl⟩⟩
set_option maxRecDepth 100000 in
theorem amount_range (x0 x1 x2 : Value) (n : Nat) (p : Int) (w : World) (u u2 : TypeId) (v v2 : Value) (h33 : 33 ≤ n) (h255 : n ≤ 255) (hp : p < 0 ∨ (n : Int) ≤ p) (hE : w.cell? ⟨1, 0, none⟩ = some (.iface u v)) (hE2 : w.cell? ⟨19, 0, none⟩ = some (.iface u2 v2)) :
    Calls Tryd.prog 13 #[.agg #[x0, x1, x2], .int .i64 (n : Int), .int .i64 p] w fun e w' => e = .returned (.tuple #[.int .u8 0, .iface u v]) ∧ Below w.heap.size w w' := by
  obtain ⟨w1, hw1⟩ : ∃ w1, w.alloc (.cells #[x0, x1, x2] 44) = w1 := ⟨_, rfl⟩
  have hb1 : Below w.heap.size w w1 := by rw [← hw1]; exact (Below.refl _ _).alloc (Nat.le_refl _) _
  have hE1 : Hid (∀ n, (w1.drewN n).cell? ⟨1, 0, none⟩ = some (.iface u v)) := Lib.hid fun n => cell_later (Kit.dn hb1 n) hE
  have HIZ := Lib.hid (inv_zero 0 rfl _ w1 (cell_later hb1 hE2))
  have hf := rpfits_any (n : Int) w1
  rw [decide_eq_true (by omega : 33 ≤ (n : Int) ∧ (n : Int) ≤ 255)] at hf
  have HF := Lib.hid hf
  have HP := Lib.hid (cbeyond_u8 n p hp w1)
  have HB1 := Lib.hid hb1
  have HW1 := Lib.hid hw1
  clear hf h33 h255 hE hE2 hb1 hw1 hp
  go_enter Tryd.func13, Tryd.ntmps13
  go_wp2_with (rw [HW1.out])
  refine HF.out.mono ?_; rintro e w' ⟨rfl, rfl⟩
  go_wp2_with fail
  refine HP.out.mono ?_; rintro e w' ⟨rfl, rfl⟩
  go_wp2_with fail
  refine HIZ.out.mono ?_; rintro e w2 ⟨rfl, nd, hw2⟩
  have hE3 : w2.cell? ⟨1, 0, none⟩ = some (.iface u v) := by rw [hw2]; exact hE1.out nd
  have HB2 : Hid (Below w.heap.size w w2) := Lib.hid (by rw [hw2]; exact Kit.dn HB1.out nd)
  clear hw2
  go_wp2_with fail
  go_quiet (fail)
  go_wp2
  go_ret2
  exact ⟨rfl, HB2.out.trans ⟨rfl, rfl, rfl, Nat.le_refl _, fun _ _ => rfl⟩⟩
set_option maxRecDepth 100000 in
set_option maxHeartbeats 1000000 in
theorem amount_of (G O : List UInt8) (x0 : Value) (oG oO : Option Addr) (cG cO n p : Nat) (w : World) (hG : RowIs w oG (bytesV G) cG) (hO : RowIs w oO (bytesV O) cO) (h33 : 33 ≤ n) (h255 : n ≤ 255) (hp : p < n) (hl : G.length ≤ 1000)
    (D : Value) (hD : ∀ v, Below w.heap.size w v → Calls Tryd.prog 35 #[.int .u8 ((Gf.gm (Gf.al (n - 1 - p)) (evL O (vi n p))).toNat : Int), .int .u8 ((evL (slopeL G) (vi n p)).toNat : Int)] v fun e w' => e = .returned D ∧ Below v.heap.size v w') (x1 x2 : Value) (hDt : D = .tuple #[x1, x2]) :
    Calls Tryd.prog 13 #[.agg #[x0, .slice oG G.length cG, .slice oO O.length cO], .int .i64 (n : Int), .int .i64 (p : Int)] w fun e w' => e = .returned D ∧ Below w.heap.size w w' := by
  obtain ⟨w1, hw1⟩ : ∃ w1, w.alloc (.cells #[x0, .slice oG G.length cG, .slice oO O.length cO] 44) = w1 := ⟨_, rfl⟩
  have hb1 : Below w.heap.size w w1 := by rw [← hw1]; exact (Below.refl _ _).alloc (Nat.le_refl _) _
  have hg1 : w1.heap[w.heap.size]? = some (.cells #[x0, .slice oG G.length cG, .slice oO O.length cO] 44 (0, 0)) := by rw [← hw1]; exact World.alloc_heap_new _ _
  have hc1 : w1.cell? ⟨w.heap.size, 1, none⟩ = some (.slice oG G.length cG) := by rw [cell_of_row _ _ 1 _ _ _ hg1]; rfl
  have hf := rpfits_any (n : Int) w1
  rw [decide_eq_true (by omega : 33 ≤ (n : Int) ∧ (n : Int) ≤ 255)] at hf
  have HF := Lib.hid hf
  obtain ⟨y, hy⟩ : ∃ y, vi n p = y := ⟨_, rfl⟩
  have hye : Gf.gd 1 (Gf.al (n - 1 - p)) = y := hy
  have HP := Lib.hid (cplace_u8 n p hp h33 h255 w1)
  have HI := cinv_u8 (Gf.al (n - 1 - p)) (Gf.al_ne _) w1
  rw [hye] at HI
  rw [hy] at hD
  have HI := Lib.hid HI
  have HB1 := Lib.hid hb1
  have HW1 := Lib.hid hw1
  have HG1 := Lib.hid hg1
  have HSL := Lib.hid (slope_rv (⟨oG, cG, rfl, hG.later hb1⟩ : RowV G (.slice oG G.length cG) w1) (by omega))
  have HO := Lib.hid hO
  have HD := Lib.hid hD
  generalize Gf.al (n - 1 - p) = a at *
  clear hf h33 h255 hG hO hb1 hw1 hp hl hy hye hD hg1
  subst hDt
  go_enter Tryd.func13, Tryd.ntmps13
  go_wp2_with (rw [HW1.out])
  refine HF.out.mono ?_; rintro e w' ⟨rfl, rfl⟩
  go_wp2_with fail
  refine HP.out.mono ?_; rintro e w' ⟨rfl, rfl⟩
  go_wp2_with fail
  refine HI.out.mono ?_; rintro e w' ⟨rfl, rfl⟩
  go_wp2_with fail
  refine HSL.out.mono ?_; rintro e w2 ⟨xs, rfl, hs, hb2⟩
  have HE := Lib.hid (evalr_rv (x := y) hs)
  rw [evL_tr] at HE
  have HB2 := Lib.hid (Kit.step HB1.out hb2)
  have HG2 : Hid (w2.heap[w.heap.size]? = some (.cells #[x0, .slice oG G.length cG, .slice oO O.length cO] 44 (0, 0))) := Lib.hid (by rw [hb2.block _ (Array.getElem?_eq_some_iff.1 HG1.out).1]; exact HG1.out)
  clear hs hb2
  go_wp2_with fail
  refine HE.out.mono ?_; rintro e w3 ⟨rfl, hb3⟩
  have HB3 := Lib.hid (Kit.step HB2.out hb3)
  have hg3 : w3.heap[w.heap.size]? = some (.cells #[x0, .slice oG G.length cG, .slice oO O.length cO] 44 (0, 0)) := by rw [hb3.block _ (Array.getElem?_eq_some_iff.1 HG2.out).1]; exact HG2.out
  have hc3 : w3.cell? ⟨w.heap.size, 2, none⟩ = some (.slice oO O.length cO) := by rw [cell_of_row _ _ 2 _ _ _ hg3]; rfl
  have HEO := Lib.hid (eval_any O y oO cO w3 (HO.out.later HB3.out))
  clear hb3 hg3 hc1
  go_wp2_with fail
  refine HEO.out.mono ?_; rintro e w4 ⟨rfl, hb4⟩
  have HB4 := Lib.hid (Kit.step HB3.out hb4)
  clear hb4 hc3
  go_wp2_with fail
  refine (mulr_u8 _ _ _).mono ?_; rintro e w5 ⟨rfl, rfl⟩
  go_wp2_with fail
  refine (HD.out _ HB4.out).mono ?_; rintro e w6 ⟨rfl, hb6⟩
  have HB6 := Lib.hid (Kit.step HB4.out hb6)
  clear hb6
  go_wp2_with fail
  go_ret2
  exact ⟨rfl, HB6.out⟩
theorem amount_ok (G O : List UInt8) (x0 : Value) (oG oO : Option Addr) (cG cO n p : Nat) (w : World) (hG : RowIs w oG (bytesV G) cG) (hO : RowIs w oO (bytesV O) cO) (h33 : 33 ≤ n) (h255 : n ≤ 255) (hp : p < n) (hl : G.length ≤ 1000) (hne : evL (slopeL G) (vi n p) ≠ 0) :
    Calls Tryd.prog 13 #[.agg #[x0, .slice oG G.length cG, .slice oO O.length cO], .int .i64 (n : Int), .int .i64 (p : Int)] w fun e w' => e = .returned (.tuple #[.int .u8 ((amt G O n p).toNat : Int), .nilIface]) ∧ Below w.heap.size w w' :=
  amount_of G O x0 oG oO cG cO n p w hG hO h33 h255 hp hl _ (fun v _ => (divr_u8 _ _ hne v).mono fun e w' h => ⟨h.1, by rw [h.2]; exact Below.refl _ _⟩) _ _ rfl
theorem amount_zero (G O : List UInt8) (x0 : Value) (oG oO : Option Addr) (cG cO n p : Nat) (w : World) (hG : RowIs w oG (bytesV G) cG) (hO : RowIs w oO (bytesV O) cO) (h33 : 33 ≤ n) (h255 : n ≤ 255) (hp : p < n) (hl : G.length ≤ 1000) (h0 : evL (slopeL G) (vi n p) = 0)
    (u : TypeId) (v : Value) (hE : w.cell? ⟨19, 0, none⟩ = some (.iface u v)) :
    Calls Tryd.prog 13 #[.agg #[x0, .slice oG G.length cG, .slice oO O.length cO], .int .i64 (n : Int), .int .i64 (p : Int)] w fun e w' => e = .returned (.tuple #[.int .u8 0, .iface u v]) ∧ Below w.heap.size w w' :=
  amount_of G O x0 oG oO cG cO n p w hG hO h33 h255 hp hl _ (fun v' hv => (fdiv_zero _ _ (by rw [h0]; rfl) u v v' (cell_later hv hE)).mono fun e w' h => ⟨h.1, by obtain ⟨_, n, rfl⟩ := h; exact Kit.dn' _ n⟩) _ _ rfl
/-- a count within the parity -/
def bnd (k : Int) : Int := if k < 0 then 0 else if 32 < k then 32 else k
set_option maxRecDepth 100000 in
theorem bounded_any (k : Int) (w : World) : Calls Tryd.prog 28 #[.int .i64 k] w fun e w' => e = .returned (.int .i64 (bnd k)) ∧ w' = w := by
  go_enter Tryd.func28, Tryd.ntmps28
  go_wp2_with fail
  all_goals
    go_ret
    refine ⟨?_, rfl⟩
    unfold bnd
    first
    | rfl
    | (rw [if_pos (by omega)]; rfl)
    | (rw [if_neg (by omega), if_pos (by omega)]; rfl)
    | (rw [if_neg (by omega), if_neg (by omega)]; rfl)
def spr (a b : Int) : Int := if 32 - bnd a - 2 * bnd b < 0 then 0 else 32 - bnd a - 2 * bnd b
set_option maxRecDepth 100000 in
theorem spare_any (a b : Int) (w : World) : Calls Tryd.prog 10 #[.int .i64 a, .int .i64 b] w fun e w' => e = .returned (.int .i64 (spr a b)) ∧ w' = w := by
  have ha : 0 ≤ bnd a ∧ bnd a ≤ 32 := by unfold bnd; omega
  have hb : 0 ≤ bnd b ∧ bnd b ≤ 32 := by unfold bnd; omega
  have h1 : IntKind.i64.wrap (32 - bnd a) = 32 - bnd a := by rw [IntKind.wrap_i64]; omega
  have h2 : IntKind.i64.wrap (2 * bnd b) = 2 * bnd b := by rw [IntKind.wrap_i64]; omega
  have h3 : IntKind.i64.wrap (32 - bnd a - 2 * bnd b) = 32 - bnd a - 2 * bnd b := by rw [IntKind.wrap_i64]; omega
  have C := Lib.hid fun k => bounded_any k w
  unfold spr
  generalize hA : bnd a = A at *
  generalize hB : bnd b = B at *
  have HA := Lib.hid hA
  have HB := Lib.hid hB
  clear hA hB
  go_enter Tryd.func10, Tryd.ntmps10
  go_wp2_with fail
  refine (C.out _).mono ?_; rintro e w' ⟨rfl, rfl⟩
  rw [HA.out]
  go_wp2_with fail
  refine (C.out _).mono ?_; rintro e w' ⟨rfl, rfl⟩
  rw [HB.out]
  go_wp2_with fail
  all_goals
    go_ret
    refine ⟨?_, rfl⟩
    first
    | rfl
    | (rw [if_pos (by omega)]; rfl)
    | (rw [if_neg (by omega)]; rfl)
end Go.Proofs.YtgchfijeiggimaaDoor
