/- StreamTwice. -/
import Derived.Test.YtaanjlbkncfnbaaDoorSm
import Derived.Test.YtaanjlbkncfnbaaDoorSc
import Derived.Test.YtaanjlbkncfnbaaDoorRbk
import Derived.Test.YtaanjlbkncfnbaaDoorOrb
namespace Go.Proofs.YtaanjlbkncfnbaaDoor
open Go.RowKit
set_option linter.unusedVariables false
set_option linter.unusedSimpArgs false
def TwA (w : World) (N : Nat) (i : Value) (wr : World) : Prop := ∃ p : Nat, p ≤ N ∧ i = .int .i64 p ∧ Below w.heap.size w wr
set_option maxRecDepth 100000 in
set_option maxHeartbeats 4000000 in
theorem stw_any (k : List UInt8) (o : Option Addr) (c : Nat) (n : Int) (bs : List (List UInt8)) (ob : Option Addr) (cb : Nat) (A : Nat → Addr) (w : World) (hK : RowIs w o (bytesV k) c) (hB : RbIs w ob bs cb) (hV : Cds w) (hE : Er.E10 w A) (hn1 : -9223372036854775808 ≤ n) (hn2 : n ≤ 9223372036854775807) :
    Calls Tryd.prog 5 #[.slice o k.length c, .int .i64 n, .slice ob bs.length cb] w fun e w' => e = .returned (.bool true) ∧ Below w.heap.size w w' := by
  have hk1 := hK.le
  have hk2 := hK.cap
  have hb1 := hB.le.1
  have hb2 := hB.le.2
  simp only [bytesV_length] at hk1
  unfold maxLen at hk2 hb2
  have HK := Lib.hid hK
  have HBS := Lib.hid hB
  have HV := Lib.hid hV
  have HE := Lib.hid hE
  have AL := Lib.hid (alive10_any w hV)
  obtain ⟨N, hN⟩ : ∃ N, bs.length = N := ⟨_, rfl⟩
  have HN := Lib.hid hN
  rw [hN] at hb1 ⊢
  obtain ⟨Lk, hLk⟩ : ∃ Lk, k.length = Lk := ⟨_, rfl⟩
  have HLK := Lib.hid hLk
  rw [hLk] at hk1 ⊢
  clear hK hB hV hE hN hLk
  go_enter Tryd.func5, Tryd.ntmps5
  go_wp2_with fail
  refine AL.out.mono ?_
  rintro e W1 ⟨rfl, hb1⟩
  have HB1 := Lib.hid hb1
  clear hb1 AL
  by_cases hz1 : 200 < Lk
  · have hd : decide ((Lk : Int) > 200) = true := by simp; omega
    go_wp2_with fail
    go_ret
    exact ⟨rfl, HB1.out⟩
  have hd : decide ((Lk : Int) > 200) = false := by simp; omega
  by_cases hz2 : 20 < N
  · have hd2 : decide ((N : Int) > 20) = true := by simp; omega
    go_wp2_with fail
    go_ret
    exact ⟨rfl, HB1.out⟩
  have hd2 : decide ((N : Int) > 20) = false := by simp; omega
  go_wp2_with fail
  go_loopw [24] (fun i wr => TwA w N i wr) (fun i _ => N - (intOf i).toNat)
  case atStart => exact ⟨0, Nat.zero_le _, rfl, HB1.out⟩
  case round =>
    obtain ⟨p, hp, rfl, hb⟩ := hrel
    by_cases hlt : p < N
    · obtain ⟨bb, off, q, cq, rfl, _, hc, hrow⟩ := (HBS.out.later hb).cell p (by rw [HN.out]; exact hlt)
      have hl1 := hrow.le
      have hl2 := hrow.cap
      rw [bytesV_length] at hl1
      unfold maxLen at hl2
      obtain ⟨L, hL⟩ : ∃ L, (bi bs p).length = L := ⟨_, rfl⟩
      rw [hL] at hc hl1
      have HB := Lib.hid hb
      clear hb hrow hL
      by_cases h4 : 40 < L
      · have hd3 : decide ((L : Int) > 40) = true := by simp; omega
        go_wp2_with fail
        go_ret
        exact ⟨rfl, HB.out⟩
      · have hd3 : decide ((L : Int) > 40) = false := by simp; omega
        go_wp2_with fail
        exact ⟨⟨p + 1, by omega, rfl, HB.out⟩, by simp [intOf]; omega⟩
    · obtain rfl : N = p := by omega
      have MK := masks_any k o c n bs ob cb A wr (HK.out.later hb) (HBS.out.later hb) (HV.out.later hb) (HE.out.later hb) (by rw [HLK.out]; omega) (by rw [HN.out]; omega) hn1 hn2
      rw [HN.out, HLK.out] at MK
      have HMK := Lib.hid MK
      have HB := Lib.hid hb
      clear hb MK
      go_wp2_with fail
      refine HMK.out.mono ?_
      rintro e W2 ⟨x, rfl, hx, hb2⟩
      have HB2 := Lib.hid (Kit.step HB.out hb2)
      have HX := Lib.hid hx
      clear hb2 hx HMK
      by_cases h0 : Da.mbs n bs = 0
      · have hnn := neq_nil W2
        obtain ⟨ox, cx, rfl, hrx⟩ := HX.out
        have hR : Da.mkR k n bs = Da.mkL k n bs := by unfold Da.mkR; rw [if_pos h0]
        obtain ⟨t1, t2⟩ := Da.mbs_mkL k n bs h0
        have hml : (Da.mkL k n bs).length = N := by rw [Da.mkL_length, HN.out]
        rw [hR] at hrx
        have MK := masks_any k o c n (Da.mkL k n bs) ox cx A W2 (HK.out.later HB2.out) hrx (HV.out.later HB2.out) (HE.out.later HB2.out) (by rw [HLK.out]; omega) (by rw [hml]; omega) hn1 hn2
        have hR2 : Da.mkR k n (Da.mkL k n bs) = bs := by unfold Da.mkR; rw [if_pos t1, t2]
        rw [hml, HLK.out, t1, hR2, errV_nil] at MK
        have HMK := Lib.hid MK
        have hml2 : (Da.mkR k n bs).length = N := by rw [hR, hml]
        rw [hml2, h0, errV_nil]
        clear hrx hR t1 t2 hml hR2 MK hml2 h0
        go_wp2_with fail
        refine HMK.out.mono ?_
        rintro e W3 ⟨y, rfl, hy, hb3⟩
        obtain ⟨oy, cy, rfl, hry⟩ := hy
        have HB3 := Lib.hid (Kit.step HB2.out hb3)
        have SL := Lib.hid (same_lists bs oy ob N cy cb W3 hry (HBS.out.later HB3.out) HN.out)
        have hn3 : ∀ W, (binOp .eql 26 .nilIface .nilIface).run Tryd.prog W = .ok (.bool true) W := fun W => by kernel_rfl
        rw [HN.out]
        clear hry hb3 HMK hnn
        go_wp2_with fail
        refine SL.out.mono ?_
        rintro e W4 ⟨rfl, hdn⟩
        have HB4 := Lib.hid (Kit.step HB3.out hdn.below)
        clear hdn SL
        go_wp2_with fail
        go_ret
        exact ⟨rfl, HB4.out⟩
      · obtain ⟨a1, ha1⟩ := errV_succ A _ h0
        obtain ⟨ox, cx, rfl, hrx⟩ := HX.out
        have hR : (Da.mkR k n bs).length = 0 := by unfold Da.mkR; rw [if_neg h0]; rfl
        rw [ha1, hR]
        clear ha1 h0 hrx hR
        go_wp2_with fail
        go_ret
        exact ⟨rfl, HB2.out⟩
end Go.Proofs.YtaanjlbkncfnbaaDoor
