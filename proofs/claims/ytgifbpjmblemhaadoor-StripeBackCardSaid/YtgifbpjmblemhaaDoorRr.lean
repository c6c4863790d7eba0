/- Contracts of the document's answers for polynomials, by definition: At, Trim, Eval. Contracts of the document's product, sum and value, coefficient by coefficient. Contracts of the document's value and sum, and of Zeros. Contracts of the document's sum, and of Zeros. -/
import Derived.Test.YtgifbpjmblemhaaDoorApw
import Derived.Test.YtgifbpjmblemhaaDoorFwm
namespace Go.Proofs.YtgifbpjmblemhaaDoor
open Go.RowKit
set_option linter.unusedVariables false
set_option linter.unusedSimpArgs false
def RtAt (p : List UInt8) (n : Value) : Prop := ∃ k : Nat, k ≤ p.length ∧ tl p p.length = tl p k ∧ n = .int .i64 k
end Go.Proofs.YtgifbpjmblemhaaDoor
namespace Go.Proofs.YtgifbpjmblemhaaDoor
open Go.RowKit
set_option linter.unusedVariables false
set_option linter.unusedSimpArgs false
theorem rmul_u8 (x y : UInt8) (v : World) : Calls Tryd.prog 42 #[.int .u8 (x.toNat : Int), .int .u8 (y.toNat : Int)] v fun e w' => e = .returned (.int .u8 ((Gf.gm x y).toNat : Int)) ∧ w' = v := by
  rw [Gf.gm_nat]; exact (rmul_nat _ _ (UInt8.toNat_lt _) (UInt8.toNat_lt _) v).mono fun _ _ h => ⟨h.1, h.2.symm⟩
def cf (p q : List UInt8) (k : Nat) : UInt8 := Gf.sm (fun i => Gf.gm (co p i) (co q (k - i))) (k + 1)
theorem tab_cf (p q : List UInt8) : tab (cf p q) (p.length + q.length) = mulL p q := by
  refine list_ext (by simp [mulL]) fun i hi => ?_
  rw [co_tab _ _ _ (by simpa using hi), co_mulL']; rfl
theorem tab_succ (F : Nat → UInt8) (k : Nat) : tab F k ++ [F k] = tab F (k + 1) := by simp [tab, List.range_succ]
theorem own_dn {W W' : World} {n : Nat} {v : Value} {xs : List Value} {m : Nat} (h : W.ownsRow n 5 1 v m xs) (hd : Kit.Dn W W') : W'.ownsRow n 5 1 v m xs := by
  obtain ⟨k, rfl⟩ := hd
  exact h
def RoAt (p q : List UInt8) (w : World) (v kv : Value) (wr : World) : Prop :=
  ∃ k : Nat, k ≤ p.length + q.length ∧ kv = .int .i64 k ∧ wr.ownsRow w.heap.size 5 1 v k (bytesV (tab (cf p q) k)) ∧ Below w.heap.size w wr
def RiAt (p q : List UInt8) (k : Nat) (w : World) (c iv : Value) (wr : World) : Prop :=
  ∃ i : Nat, i ≤ k + 1 ∧ iv = .int .i64 i ∧ c = .int .u8 ((Gf.sm (fun i => Gf.gm (co p i) (co q (k - i))) i).toNat : Int) ∧ Kit.Dn w wr
end Go.Proofs.YtgifbpjmblemhaaDoor
namespace Go.Proofs.YtgifbpjmblemhaaDoor
open Go.RowKit
set_option linter.unusedVariables false
set_option linter.unusedSimpArgs false
def ReAt (z : List UInt8) (x : UInt8) (out pw i : Value) : Prop :=
  ∃ k : Nat, k ≤ z.length ∧ i = .int .i64 k ∧ out = .int .u8 ((Gf.ev k (co z) x).toNat : Int) ∧ pw = .int .u8 ((Gf.px x k).toNat : Int)
end Go.Proofs.YtgifbpjmblemhaaDoor
namespace Go.Proofs.YtgifbpjmblemhaaDoor
open Go.RowKit
set_option linter.unusedVariables false
set_option linter.unusedSimpArgs false
def RaAt (p q : List UInt8) (w : World) (v kv : Value) (wr : World) : Prop :=
  ∃ k : Nat, k ≤ max p.length q.length ∧ kv = .int .i64 k ∧ wr.ownsRow w.heap.size 5 1 v k (bytesV (tab (fun i => co p i ^^^ co q i) k)) ∧ Below w.heap.size w wr
/-- where a polynomial is 0, of the first k numbers -/
def zl (p : List UInt8) : Nat → List UInt8
  | 0 => []
  | k + 1 => if evL p (UInt8.ofNat k) = 0 then zl p k ++ [UInt8.ofNat k] else zl p k
theorem zl_length (p : List UInt8) (k : Nat) : (zl p k).length ≤ k := by
  induction k with
  | zero => exact Nat.le_refl _
  | succ k ih =>
    rw [zl]
    split
    · simp; omega
    · omega
def ZeAt (p : List UInt8) (w : World) (T : Nat) (C : Array Value) (v kv : Value) (wr : World) : Prop :=
  ∃ k : Nat, k ≤ 256 ∧ kv = .int .i64 k ∧ wr.ownsRow w.heap.size 5 1 v (zl p k).length (bytesV (zl p k)) ∧ Below w.heap.size w wr ∧ TabAt wr T C
set_option maxRecDepth 100000 in
set_option maxHeartbeats 1000000 in
theorem zeros_any (p : List UInt8) (o : Option Addr) (c : Nat) (w : World) (hP : RowIs w o (bytesV p) c) :
    Calls Tryd.prog 98 #[.slice o p.length c] w (Rows (zl p 256) w) := by
  have HP := Lib.hid hP
  clear hP
  go_enter Tryd.func98, Tryd.ntmps98
  go_wp2_with fail
  refine (make_any _).mono ?_; rintro e w1 ⟨n, C, hC, rfl, hw1⟩
  have hT1 : TabAt w1 w.heap.size C := by rw [hw1]; exact TabAt.made hC
  have hb1 : Below w.heap.size w w1 := by rw [hw1]; exact made_below
  have HB1 := Lib.hid hb1
  have HT1 := Lib.hid hT1
  have HP1 := Lib.hid (HP.out.later hb1)
  clear hC hT1 hb1 hw1
  go_wp2_with fail
  go_loopw [3, 5, 7] (fun v _ kv wr => ZeAt p w1 w.heap.size C v kv wr) (fun _ _ kv _ => 256 - (intOf kv).toNat)
  case atStart => exact ⟨0, by omega, rfl, World.ownsRow_nil _ _ _ _, Below.refl _ _, HT1.out⟩
  case round =>
    obtain ⟨k, hk, rfl, hv, hb, ht⟩ := hrel
    have HV := Lib.hid hv
    have HB := Lib.hid hb
    have HT := Lib.hid ht
    by_cases hlt : k < 256
    · obtain ⟨x, hx⟩ : ∃ x, UInt8.ofNat k = x := ⟨_, rfl⟩
      have hxk : x.toNat = k := by rw [← hx, UInt8.toNat_ofNat']; omega
      have hval := value_any p x w.heap.size C o c wr (HP1.out.later hb) ht
      rw [hxk] at hval
      have HVAL := Lib.hid hval
      have hm1 : (k : Int) % 256 = (k : Int) := by omega
      have hzl := zl_length p k
      have HZ : Hid (zl p (k + 1) = if evL p x = 0 then zl p k ++ [x] else zl p k) := Lib.hid (by rw [← hx]; rfl)
      have HXK := Lib.hid hxk
      clear hval hv hb ht hx hxk
      generalize evL p x = y at *
      have hyl := UInt8.toNat_lt y
      by_cases h0 : y = 0
      · subst h0
        have hz0 : Hid (zl p (k + 1) = zl p k ++ [x]) := Lib.hid (by rw [HZ.out, if_pos rfl])
        go_wp2_with fail
        refine HVAL.out.mono ?_; rintro e w2 ⟨rfl, hd⟩
        have hbd := (Kit.step HB.out hd.below)
        have HCE : Hid ((.cells #[.int .u8 (k : Int)] 5 : Obj) = .cells (bytesV [x]).toArray 5) := Lib.hid (by
          have := HXK.out
          simp [bytesV, this])
        have HV2 := Lib.hid ((own_dn HV.out hd).alloc (.cells #[.int .u8 (k : Int)] 5))
        have HB2 := Lib.hid (hbd.alloc hbd.size (.cells #[.int .u8 (k : Int)] 5))
        have HT2 := Lib.hid ((HT.out.later hd.below).later ((Below.refl w2.heap.size w2).alloc (Nat.le_refl _) (.cells #[.int .u8 (k : Int)] 5)))
        have HROW : Hid (RowIs (w2.alloc (.cells #[.int .u8 (k : Int)] 5)) (some ⟨w2.heap.size, 0, none⟩) (bytesV [x]) 1) := Lib.hid (by
          rw [HCE.out]; exact row_cells (World.alloc_heap_new _ _) (by unfold maxLen; simp))
        clear hd hbd
        go_wp2_with (at_builtin; refine append_row rfl (.tmp 16) (.tmp 19) rfl w1.heap.size _ (zl p k).length (zl p k) rfl HV2.out _ 1 1 [x] rfl rfl HROW.out (by omega) HB2.out.size ?_)
        intro v' w3 hv hg
        have hb3 := own_below (n := 0) HB2.out HV2.out hg
        have hlt2 : w.heap.size < w1.heap.size := (Array.getElem?_eq_some_iff.1 HT1.out.block).1
        have ht3 : TabAt w3 w.heap.size C := ⟨by rw [hb3.block _ hlt2]; exact HT1.out.block, HT1.out.tab⟩
        have hv3 : w3.ownsRow w1.heap.size 5 1 v' (zl p (k + 1)).length (bytesV (zl p (k + 1))) := by
          rw [hz0.out]
          simpa using hv
        have HV3 := Lib.hid hv3
        have HB3 := Lib.hid hb3
        have HT3 := Lib.hid ht3
        clear hv hg hb3 hlt2 ht3 hv3
        go_wp2
        go_roundw
        case rel => exact ⟨k + 1, by omega, by go_num, HV3.out, HB3.out, HT3.out⟩
        case measure => simp [intOf]; omega
      · have h00 : ¬ y.toNat = 0 := fun e => h0 (Gf.u8_ext e)
        have hy1 : ((y.toNat : Int) == 0) = false := by simpa using h00
        have hz0 : Hid (zl p (k + 1) = zl p k) := Lib.hid (by rw [HZ.out, if_neg h0])
        go_wp2_with fail
        refine HVAL.out.mono ?_; rintro e w2 ⟨rfl, hd⟩
        have HD := Lib.hid hd
        clear hd
        go_wp2_with fail
        go_roundw
        case rel => exact ⟨k + 1, by omega, by go_num, by rw [hz0.out]; exact own_dn HV.out HD.out, Kit.step HB.out HD.out.below, HT.out.later HD.out.below⟩
        case measure => simp [intOf]; omega
    · obtain rfl : k = 256 := by omega
      have hr := owns_rv hv rfl
      have HR := Lib.hid hr
      clear hv hb ht hr
      go_wp2_with fail
      go_ret
      exact ⟨_, rfl, HR.out, Kit.step HB1.out HB.out⟩
end Go.Proofs.YtgifbpjmblemhaaDoor
