/- The walk of PolyEvaluates. -/
import Derived.Test.YtbmafnippbjpnaaAd
namespace Go.Proofs.Ytbmafnippbjpnaa
open Go.RowKit
set_option linter.unusedVariables false
theorem mul_u8 (x y : UInt8) (v : World) : Calls Try.prog 29 #[.int .u8 (x.toNat : Int), .int .u8 (y.toNat : Int)] v fun e w' => e = .returned (.int .u8 ((Gf.gm x y).toNat : Int)) ∧ w' = v := by
  rw [Gf.gm_nat]; exact (mul_nat _ _ (UInt8.toNat_lt _) (UInt8.toNat_lt _) v).mono fun _ _ h => ⟨h.1, h.2.symm⟩
theorem eva_long (p q : List UInt8) (x : UInt8) (o o2 : Option Addr) (c c2 : Nat) (w : World) (hl : 60 < p.length ∨ 60 < q.length) (h1 : p.length ≤ 9223372036854775807) (h2 : q.length ≤ 9223372036854775807) :
    Calls Try.prog 7 #[.slice o p.length c, .slice o2 q.length c2, .int .u8 (x.toNat : Int)] w fun e w' => e = .returned (.bool true) ∧ Below w.heap.size w w' := by
  by_cases h1 : 60 < p.length
  · clear hl
    go_enter Try.func7, Try.ntmps7
    go_wp2_with fail
    refine (alive2_any _).mono ?_; rintro e w1 ⟨rfl, hg⟩
    have HG := Lib.hid hg
    clear hg
    go_wp2_with fail
    go_ret
    exact ⟨rfl, HG.out⟩
  · have h3 : 60 < q.length := by omega
    have hd1 : decide (60 < p.length) = false := by simpa using h1
    clear hl
    go_enter Try.func7, Try.ntmps7
    go_wp2_with fail
    refine (alive2_any _).mono ?_; rintro e w1 ⟨rfl, hg⟩
    have HG := Lib.hid hg
    clear hg
    go_wp2_with fail
    go_ret
    exact ⟨rfl, HG.out⟩
set_option maxRecDepth 100000 in
theorem eva_short (p q : List UInt8) (x : UInt8) (o o2 : Option Addr) (c c2 : Nat) (w : World) (hP : RowIs w o (bytesV p) c) (hQ : RowIs w o2 (bytesV q) c2) (hl1 : p.length ≤ 60) (hl2 : q.length ≤ 60) :
    Calls Try.prog 7 #[.slice o p.length c, .slice o2 q.length c2, .int .u8 (x.toNat : Int)] w fun e w' => e = .returned (.bool true) ∧ Below w.heap.size w w' := by
  have HP := Lib.hid hP
  have HQ := Lib.hid hQ
  have hx := UInt8.toNat_lt x
  clear hP hQ
  go_enter Try.func7, Try.ntmps7
  go_wp2_with fail
  refine (alive2_any _).mono ?_; rintro e w1 ⟨rfl, hg⟩
  have HG := Lib.hid hg
  clear hg
  go_wp2_with fail
  refine (eval_any p x o c _ (HP.out.later HG.out)).mono ?_; rintro e w2 ⟨rfl, hg⟩
  have HG2 := Lib.hid (Kit.step HG.out hg)
  clear hg
  go_wp2_with fail
  refine (eval_any q x o2 c2 _ (HQ.out.later HG2.out)).mono ?_; rintro e w3 ⟨rfl, hg⟩
  have HG3 := Lib.hid (Kit.step HG2.out hg)
  clear hg
  go_wp2_with fail
  refine (add_poly_any p q o o2 c c2 _ (HP.out.later HG3.out) (HQ.out.later HG3.out) (by omega) (by omega)).mono ?_; rintro e w4 ⟨g, cap, rfl, _, hg, hr⟩
  have HG4 := Lib.hid (Kit.step HG3.out hg)
  have HE := Lib.hid (eval_any _ x _ _ _ hr)
  have e1 : evL (tr (addL p q)) x = evL p x ^^^ evL q x := by rw [evL_tr, evL_add]
  rw [e1] at HE
  clear hg hr e1
  go_wp2_with fail
  refine HE.out.mono ?_; rintro e w5 ⟨rfl, hg⟩
  have HG5 := Lib.hid (Kit.step HG4.out hg)
  clear hg HE
  have AC := Lib.hid (add_u8 (evL p x) (evL q x) w5)
  have HM := Lib.hid (mul_poly_any p q o o2 c c2 w5 (HP.out.later HG5.out) (HQ.out.later HG5.out) (by omega))
  have e2 : ∀ g cap v, RowIs v (some ⟨g, 0, none⟩) (bytesV (tr (mulL p q))) cap → Calls Try.prog 22 #[.slice (some ⟨g, 0, none⟩) (tr (mulL p q)).length cap, .int .u8 (x.toNat : Int)] v fun e w' => e = .returned (.int .u8 ((Gf.gm (evL p x) (evL q x)).toNat : Int)) ∧ Below v.heap.size v w' := by
    intro g cap v hr
    have := eval_any _ x _ _ _ hr
    rw [evL_tr, evL_mul] at this
    exact this
  have E2 := Lib.hid e2
  have M2 : Hid (∀ v, Calls Try.prog 29 #[.int .u8 ((evL p x).toNat : Int), .int .u8 ((evL q x).toNat : Int)] v fun e w' => e = .returned (.int .u8 ((Gf.gm (evL p x) (evL q x)).toNat : Int)) ∧ w' = v) := Lib.hid fun v => mul_u8 _ _ v
  clear e2
  generalize evL p x = a at *
  generalize evL q x = b at *
  generalize a ^^^ b = s at *
  generalize Gf.gm a b = t at *
  go_wp2_with fail
  refine AC.out.mono ?_; rintro e w' ⟨rfl, rfl⟩
  go_wp2_with fail
  refine HM.out.mono ?_; rintro e w6 ⟨g, cap, rfl, _, hg, hr⟩
  have HG6 := Lib.hid (Kit.step HG5.out hg)
  have HE := Lib.hid (E2.out _ _ _ hr)
  clear hg hr
  go_wp2_with fail
  refine HE.out.mono ?_; rintro e w7 ⟨rfl, hg⟩
  have HG7 := Lib.hid (Kit.step HG6.out hg)
  clear hg HE
  go_wp2_with fail
  refine (M2.out _).mono ?_; rintro e w' ⟨rfl, rfl⟩
  go_wp2_with fail
  go_ret
  exact ⟨rfl, HG7.out⟩
theorem eva_walk (p q : List UInt8) (x : UInt8) (o o2 : Option Addr) (c c2 : Nat) (w : World) (hP : RowIs w o (bytesV p) c) (hQ : RowIs w o2 (bytesV q) c2) :
    Calls Try.prog 7 #[.slice o p.length c, .slice o2 q.length c2, .int .u8 (x.toNat : Int)] w fun e w' => e = .returned (.bool true) ∧ Below w.heap.size w w' := by
  by_cases hl : 60 < p.length ∨ 60 < q.length
  · have h1 := hP.le
    have h2 := hP.cap
    have h3 := hQ.le
    have h4 := hQ.cap
    simp only [bytesV_length] at h1 h3
    unfold maxLen at h2 h4
    exact eva_long p q x o o2 c c2 w hl (by omega) (by omega)
  · exact eva_short p q x o o2 c c2 w hP hQ (by omega) (by omega)
end Go.Proofs.Ytbmafnippbjpnaa
