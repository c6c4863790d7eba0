/- The walk of PolyRoots. -/
import Derived.Test.YtbmafnippbjpnaaRm
namespace Go.Proofs.Ytbmafnippbjpnaa
open Go.RowKit
set_option linter.unusedVariables false
set_option linter.unusedSimpArgs false
theorem rmulp_rv {p q : List UInt8} {x y : Value} {v : World} (hp : RowV p x v) (hq : RowV q y v) (hl : p.length + q.length ≤ 100000) : Calls Try.prog 16 #[x, y] v (Rows (tr (mulL p q)) v) := by
  obtain ⟨o, c, rfl, hp⟩ := hp
  obtain ⟨o2, c2, rfl, hq⟩ := hq
  exact rmulp_any p q o o2 c c2 v hp hq hl
theorem eval_rv {p : List UInt8} {a : Value} {x : UInt8} {v : World} (hp : RowV p a v) : Calls Try.prog 22 #[a, .int .u8 (x.toNat : Int)] v fun e w' => e = .returned (.int .u8 ((evL p x).toNat : Int)) ∧ Below v.heap.size v w' := by
  obtain ⟨o, c, rfl, hp⟩ := hp
  exact eval_any p x o c v hp
/-- the values' products -/
def vp (z : List UInt8) (x : UInt8) : Nat → UInt8
  | 0 => 1
  | k + 1 => Gf.gm (vp z x k) (x ^^^ co z k)
def tp (z : List UInt8) (x : UInt8) : Nat → UInt8
  | 0 => 1
  | k + 1 => Gf.gm (tp z x k) (1 ^^^ Gf.gm (co z k) x)
theorem ev_two (a b x : UInt8) : evL [a, b] x = a ^^^ Gf.gm b x := by
  show (0 ^^^ Gf.gm a 1) ^^^ Gf.gm b (Gf.gm 1 x) = _
  rw [UInt8.zero_xor, Gf.gm_one, Gf.one_gm]
theorem ev_one (x : UInt8) : evL [1] x = 1 := by
  show (0 ^^^ Gf.gm 1 1) = _
  rw [UInt8.zero_xor, Gf.gm_one]
theorem ev_roots (z : List UInt8) (x : UInt8) (k : Nat) : evL (prodL (fun r => [r, 1]) z k) x = vp z x k := by
  induction k with
  | zero => exact ev_one x
  | succ k ih => rw [prodL, evL_mul, ih, ev_two, Gf.one_gm, vp, UInt8.xor_comm]
theorem ev_inverses (z : List UInt8) (x : UInt8) (k : Nat) : evL (prodL (fun r => [1, r]) z k) x = tp z x k := by
  induction k with
  | zero => exact ev_one x
  | succ k ih => rw [prodL, evL_mul, ih, ev_two, tp]
theorem prod_step (F : UInt8 → List UInt8) (z : List UInt8) (k : Nat) : tr (mulL (tr (prodL F z k)) (F (co z k))) = tr (prodL F z (k + 1)) := tr_congr (mulL_congr (co_tr _) (fun _ => rfl))
def RxAt (z : List UInt8) (x : UInt8) (w : World) (a b c d i : Value) (wr : World) : Prop :=
  ∃ k : Nat, k ≤ z.length ∧ i = .int .i64 k ∧ RowV (tr (prodL (fun r => [r, 1]) z k)) a wr ∧ RowV (tr (prodL (fun r => [1, r]) z k)) b wr ∧ c = .int .u8 ((vp z x k).toNat : Int) ∧ d = .int .u8 ((tp z x k).toNat : Int) ∧ Below w.heap.size w wr
set_option maxRecDepth 100000 in
set_option maxHeartbeats 2000000 in
theorem roo_short (z : List UInt8) (x : UInt8) (o : Option Addr) (c : Nat) (w : World) (hP : RowIs w o (bytesV z) c) (hl1 : z.length ≤ 40) :
    Calls Try.prog 5 #[.slice o z.length c, .int .u8 (x.toNat : Int)] w fun e w' => e = .returned (.bool true) ∧ Below w.heap.size w w' := by
  have h1 := hP.le
  have h2 := hP.cap
  simp only [bytesV_length] at h1
  unfold maxLen at h2
  have HP := Lib.hid hP
  have hx := UInt8.toNat_lt x
  clear hP
  go_enter Try.func5, Try.ntmps5
  go_wp2_with fail
  refine (alive2_any _).mono ?_; rintro e w1 ⟨rfl, hg⟩
  have HG := Lib.hid hg
  clear hg
  go_wp2_with fail
  refine (roots_any z o c _ (by omega) (HP.out.later HG.out)).mono ?_; rintro e w2 ⟨g1, cap1, rfl, _, hg, hr⟩
  have HG2 := Lib.hid (Kit.step HG.out hg)
  have HR := Lib.hid hr
  clear hg hr
  go_wp2_with fail
  refine (inverses_any z o c _ (by omega) (HP.out.later HG2.out)).mono ?_; rintro e w3 ⟨g2, cap2, rfl, _, hg, hr⟩
  have HG3 := Lib.hid (Kit.step HG2.out hg)
  have HR3 := Lib.hid (HR.out.later hg)
  have HI3 := Lib.hid hr
  clear hg hr
  obtain ⟨w4, hw4⟩ : ∃ w4, (w3.alloc (.cells (bytesV [1]).toArray 5)).alloc (.cells (bytesV [1]).toArray 5) = w4 := ⟨_, rfl⟩
  have hb4 : Below w3.heap.size w3 w4 := by rw [← hw4]; exact ((Below.refl _ _).alloc (Nat.le_refl _) _).alloc (by simp) _
  have ha4 : RowV (tr (prodL (fun r => [r, 1]) z 0)) (.slice (some ⟨w3.heap.size, 0, none⟩) 1 1) w4 := by
    show RowV (tr [1]) _ _
    rw [tr_one, ← hw4]
    exact (show RowV [1] _ _ from ⟨_, _, rfl, row_cells (World.alloc_heap_new w3 _) (by unfold maxLen; simp)⟩).later ((Below.refl _ _).alloc (Nat.le_refl _) _)
  have hb4' : RowV (tr (prodL (fun r => [1, r]) z 0)) (.slice (some ⟨w3.heap.size + 1, 0, none⟩) 1 1) w4 := by
    show RowV (tr [1]) _ _
    rw [tr_one, ← hw4]
    have := World.alloc_heap_new (w3.alloc (.cells (bytesV [1]).toArray 5)) (.cells (bytesV [1]).toArray 5)
    rw [World.size_alloc] at this
    exact ⟨_, _, rfl, row_cells this (by unfold maxLen; simp)⟩
  have HG4 := Lib.hid (Kit.step HG3.out hb4)
  have HR4 := Lib.hid (HR3.out.later hb4)
  have HI4 := Lib.hid (HI3.out.later hb4)
  have HA4 := Lib.hid ha4
  have HB4 := Lib.hid hb4'
  have HW4 := Lib.hid hw4
  clear hb4 ha4 hb4' hw4
  go_wp2_with fail
  rw [show (w3.alloc (.cells #[.int .u8 1] 5)).alloc (.cells #[.int .u8 1] 5) = w4 from HW4.out]
  go_loopw [7, 8, 9, 10, 12, 26] (fun a b c d _ i wr => RxAt z x w4 a b c d i wr) (fun _ _ _ _ _ i _ => z.length - (intOf i).toNat)
  case atStart => exact ⟨0, Nat.zero_le _, rfl, HA4.out, HB4.out, rfl, rfl, Below.refl _ _⟩
  case round =>
    obtain ⟨k, hk, rfl, ha, hb, rfl, rfl, hw⟩ := hrel
    have HW := Lib.hid hw
    have HGW := Lib.hid (Kit.step HG4.out hw)
    by_cases hlt : k < z.length
    · obtain ⟨b1, off1, rfl, hb1, hcell⟩ := (HP.out.later HGW.out).cells (by simp; omega)
      have hc1 : wr.cell? ⟨b1, off1 + k, none⟩ = some (.int .u8 ((co z k).toNat : Int)) := hcell k _ (bytesV_get z k hlt)
      have hla := tr_le (prodL (fun r => [r, 1]) z k)
      have hlb := tr_le (prodL (fun r => [1, r]) z k)
      rw [prodL_length _ z (fun _ => rfl)] at hla hlb
      have HPA := Lib.hid (prod_step (fun r => [r, 1]) z k)
      have HPB := Lib.hid (prod_step (fun r => [1, r]) z k)
      have HV : Hid (vp z x (k + 1) = Gf.gm (vp z x k) (x ^^^ co z k)) := Lib.hid rfl
      have HT : Hid (tp z x (k + 1) = Gf.gm (tp z x k) (1 ^^^ Gf.gm (co z k) x)) := Lib.hid rfl
      have hx1 := u8c x (co z k)
      have hx2 := u8c 1 (Gf.gm (co z k) x)
      rw [show ((1 : UInt8).toNat : Int) = 1 from rfl] at hx2
      obtain ⟨o7, c7, rfl, ra⟩ := ha
      obtain ⟨o8, c8, rfl, rb⟩ := hb
      have HRA := Lib.hid ra
      have HRB := Lib.hid rb
      have HLA := Lib.hid hla
      have HLB := Lib.hid hlb
      clear hcell ra rb hw hla hlb
      generalize hT1 : Gf.gm (co z k) x = t1 at *
      generalize hr : co z k = r at *
      have M1 : Hid (∀ v : World, Calls Try.prog 27 #[.int .u8 (r.toNat : Int), .int .u8 (x.toNat : Int)] v fun e w' => e = .returned (.int .u8 (t1.toNat : Int)) ∧ w' = v) := Lib.hid fun v => by rw [← hT1]; exact rmul_u8 _ _ v
      generalize x ^^^ r = s1 at *
      generalize 1 ^^^ t1 = s2 at *
      have hrl := UInt8.toNat_lt r
      have HT1 := Lib.hid hT1
      have HR := Lib.hid hr
      clear hT1 hr
      obtain ⟨w5, hw5⟩ : ∃ w5, wr.alloc (.cells (bytesV [r, 1]).toArray 5) = w5 := ⟨_, rfl⟩
      have hb5 : Below wr.heap.size wr w5 := by rw [← hw5]; exact (Below.refl _ _).alloc (Nat.le_refl _) _
      have hr5 : RowIs w5 (some ⟨wr.heap.size, 0, none⟩) (bytesV [r, 1]) 2 := by rw [← hw5]; exact row_cells (World.alloc_heap_new _ _) (by unfold maxLen; simp)
      have hm5 := rmulp_any (tr (prodL (fun r => [r, 1]) z k)) [r, 1] _ _ _ _ _ (HRA.out.later hb5) hr5 (by have := HLA.out; simp; omega)
      rw [HPA.out, ← hw5] at hm5
      have HM5 := Lib.hid hm5
      have HB5 := Lib.hid hb5
      have HW5 := Lib.hid hw5
      clear hm5 hb5 hr5 hw5
      go_wp2_with fail
      refine HM5.out.mono ?_; rintro e w6 ⟨v6, rfl, hr6, hb6⟩
      have hb6' : Below wr.heap.size wr w6 := Kit.step HB5.out (by rw [HW5.out] at hb6; exact hb6)
      have HB6 := Lib.hid hb6'
      have HR6 := Lib.hid hr6
      have HRB6 := Lib.hid (HRB.out.later hb6')
      clear hb6 hr6 hb6'
      obtain ⟨w7, hw7⟩ : ∃ w7, w6.alloc (.cells (bytesV [1, r]).toArray 5) = w7 := ⟨_, rfl⟩
      have hb7 : Below w6.heap.size w6 w7 := by rw [← hw7]; exact (Below.refl _ _).alloc (Nat.le_refl _) _
      have hr7 : RowIs w7 (some ⟨w6.heap.size, 0, none⟩) (bytesV [1, r]) 2 := by rw [← hw7]; exact row_cells (World.alloc_heap_new _ _) (by unfold maxLen; simp)
      have hm7 := rmulp_any (tr (prodL (fun r => [1, r]) z k)) [1, r] _ _ _ _ _ (HRB6.out.later hb7) hr7 (by have := HLB.out; simp; omega)
      rw [HPB.out, ← hw7] at hm7
      have HM7 := Lib.hid hm7
      have HB7 := Lib.hid hb7
      have HW7 := Lib.hid hw7
      clear hm7 hb7 hr7 hw7
      go_wp2_with fail
      refine HM7.out.mono ?_; rintro e w8 ⟨v8, rfl, hr8, hb8⟩
      have hb8' : Below w6.heap.size w6 w8 := Kit.step HB7.out (by rw [HW7.out] at hb8; exact hb8)
      have HB8 := Lib.hid (Kit.step HB6.out hb8')
      have HR8 := Lib.hid hr8
      have HRA8 := Lib.hid (HR6.out.later hb8')
      have M2 : Hid (∀ v : World, Calls Try.prog 27 #[.int .u8 ((vp z x k).toNat : Int), .int .u8 (s1.toNat : Int)] v fun e w' => e = .returned (.int .u8 ((vp z x (k + 1)).toNat : Int)) ∧ w' = v) := Lib.hid fun v => by rw [HV.out]; exact rmul_u8 _ _ v
      have M3 : Hid (∀ v : World, Calls Try.prog 27 #[.int .u8 ((tp z x k).toNat : Int), .int .u8 (s2.toNat : Int)] v fun e w' => e = .returned (.int .u8 ((tp z x (k + 1)).toNat : Int)) ∧ w' = v) := Lib.hid fun v => by rw [HT.out]; exact rmul_u8 _ _ v
      clear hb8 hr8 hb8'
      go_wp2_with fail
      refine (M2.out _).mono ?_; rintro e w' ⟨rfl, rfl⟩
      go_wp2_with fail
      refine (M1.out _).mono ?_; rintro e w' ⟨rfl, rfl⟩
      go_wp2_with fail
      refine (M3.out _).mono ?_; rintro e w' ⟨rfl, rfl⟩
      go_wp2_with fail
      go_roundw
      case rel => exact ⟨k + 1, by omega, by go_num, HRA8.out, HR8.out, rfl, rfl, Kit.step HW.out HB8.out⟩
      case measure => simp [intOf]; omega
    · obtain rfl : k = z.length := by omega
      have HRW := Lib.hid (HR4.out.later hw)
      have HIW := Lib.hid (HI4.out.later hw)
      have k1 := conv_rv (v := wr) (⟨_, _, rfl, HRW.out⟩ : RowV (tr (prodL (fun r => [r, 1]) z z.length)) (.slice (some ⟨g1, 0, none⟩) (tr (prodL (fun r => [r, 1]) z z.length)).length cap1) wr)
      have k2 := conv_rv ha
      have k3 := conv_rv (v := wr) (⟨_, _, rfl, HIW.out⟩ : RowV (tr (prodL (fun r => [1, r]) z z.length)) (.slice (some ⟨g2, 0, none⟩) (tr (prodL (fun r => [1, r]) z z.length)).length cap2) wr)
      have k4 := conv_rv hb
      have e1 := eval_any _ x _ _ _ HRW.out
      rw [evL_tr, ev_roots] at e1
      have E1 := Lib.hid e1
      have E2 : Hid (∀ v, Below wr.heap.size wr v → Calls Try.prog 22 #[.slice (some ⟨g2, 0, none⟩) (tr (prodL (fun r => [1, r]) z z.length)).length cap2, .int .u8 (x.toNat : Int)] v fun e w' => e = .returned (.int .u8 ((tp z x z.length).toNat : Int)) ∧ Below v.heap.size v w') := Lib.hid fun v hv => by
        have := eval_any _ x _ _ _ (HIW.out.later hv)
        rw [evL_tr, ev_inverses] at this
        exact this
      clear ha hb hw e1
      generalize tr (prodL (fun r => [r, 1]) z z.length) = A1 at *
      generalize tr (prodL (fun r => [1, r]) z z.length) = A2 at *
      go_wp2_with fail
      refine E1.out.mono ?_; rintro e w5 ⟨rfl, hb5⟩
      have HB5 := Lib.hid hb5
      clear hb5
      go_wp2_with fail
      refine (E2.out _ HB5.out).mono ?_; rintro e w6 ⟨rfl, hb6⟩
      have HB6 := Lib.hid (Kit.step HGW.out (Kit.step HB5.out hb6))
      clear hb6
      go_wp2_with fail
      go_ret
      exact ⟨rfl, HB6.out⟩
theorem roo_long (z : List UInt8) (x : UInt8) (o : Option Addr) (c : Nat) (w : World) (hl : 40 < z.length) (h1 : z.length ≤ 9223372036854775807) :
    Calls Try.prog 5 #[.slice o z.length c, .int .u8 (x.toNat : Int)] w fun e w' => e = .returned (.bool true) ∧ Below w.heap.size w w' := by
  go_enter Try.func5, Try.ntmps5
  go_wp2_with fail
  refine (alive2_any _).mono ?_; rintro e w1 ⟨rfl, hg⟩
  have HG := Lib.hid hg
  clear hg
  go_wp2_with fail
  go_ret
  exact ⟨rfl, HG.out⟩
theorem roo_walk (z : List UInt8) (x : UInt8) (o : Option Addr) (c : Nat) (w : World) (hP : RowIs w o (bytesV z) c) :
    Calls Try.prog 5 #[.slice o z.length c, .int .u8 (x.toNat : Int)] w fun e w' => e = .returned (.bool true) ∧ Below w.heap.size w w' := by
  by_cases hl : 40 < z.length
  · have h1 := hP.le
    have h2 := hP.cap
    simp only [bytesV_length] at h1
    unfold maxLen at h2
    exact roo_long z x o c w hl (by omega)
  · exact roo_short z x o c w hP (by omega)
end Go.Proofs.Ytbmafnippbjpnaa
