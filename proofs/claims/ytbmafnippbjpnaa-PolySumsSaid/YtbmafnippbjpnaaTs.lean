/- Contracts of Trim, Scale and Low. -/
import Derived.Test.YtbmafnippbjpnaaZe
namespace Go.Proofs.Ytbmafnippbjpnaa
open Go.RowKit
set_option linter.unusedVariables false
set_option linter.unusedSimpArgs false
theorem trim_any (p : List UInt8) (o : Option Addr) (c : Nat) (w : World) (hP : RowIs w o (bytesV p) c) (hl : p.length ≤ 1000000) :
    Calls Try.prog 11 #[.slice o p.length c] w (Rows (tr p) w) := by
  have HC := Lib.hid (cut_any o p c w hP)
  have htl := tr_le p
  clear hP
  go_enter Try.func11, Try.ntmps11
  go_wp2_with fail
  refine HC.out.mono ?_; rintro e w1 ⟨rfl, hb, hr⟩
  have HB := Lib.hid hb
  have HR := Lib.hid hr
  have HOWN : Hid (w1.ownsRow w1.heap.size 5 1 (.slice none 0 0) 0 (bytesV [])) := Lib.hid (World.ownsRow_nil _ _ _ _)
  clear hb hr HC
  go_wp2_with (at_builtin; refine append_row rfl (.const (.slice none 0 0)) (.tmp 4) rfl w1.heap.size _ 0 [] rfl HOWN.out o (tr p).length c (tr p) rfl rfl HR.out (by omega) (Nat.le_refl _) ?_)
  intro v' w' hv hg
  have hb2 := own_below (n := 0) (Below.refl _ _) HOWN.out hg
  have hr2 := owns_rv hv rfl
  have HB2 := Lib.hid (Kit.step HB.out hb2)
  have HR2 := Lib.hid hr2
  clear hv hg hb2 hr2
  go_wp2
  go_ret
  exact ⟨v', rfl, by simpa using HR2.out, HB2.out⟩
theorem trim_rv {p : List UInt8} {a : Value} {v : World} (hp : RowV p a v) (hl : p.length ≤ 1000000) : Calls Try.prog 11 #[a] v (Rows (tr p) v) := by
  obtain ⟨o, c, rfl, hp⟩ := hp
  exact trim_any p o c v hp hl
theorem mix_scale (p : List UInt8) (a : UInt8) : mix (List.replicate p.length 0) 0 p a = scaleL p a := by
  refine list_ext (by simp [scaleL]) fun i hi => ?_
  rw [co_mix _ _ _ _ _ (by simpa using hi), co_scaleL, zeros_co, UInt8.zero_xor]
  unfold Gf.ps
  rw [if_pos (Nat.zero_le _), Nat.sub_zero]
set_option maxRecDepth 100000 in
theorem scale_any (p : List UInt8) (a : UInt8) (o : Option Addr) (c : Nat) (w : World) (hP : RowIs w o (bytesV p) c) (hl : p.length ≤ 1000000) :
    Calls Try.prog 17 #[.slice o p.length c, .int .u8 (a.toNat : Int)] w (Rows (tr (scaleL p a)) w) := by
  obtain ⟨i0, hi, hz0, hz1, hz2⟩ := info_parts info_u8
  have h1 := hP.le
  have h2 := hP.cap
  simp only [bytesV_length] at h1
  unfold maxLen at h2
  have ha := UInt8.toNat_lt a
  have HP := Lib.hid hP
  have HAP := Lib.hid (hP.apart (g := w.heap.size) (Nat.le_refl _))
  clear hP
  go_enter Try.func17, Try.ntmps17
  go_wp2_with (at_make; refine wpList_make_full _ rfl _ _ 22 rfl 0 5 i0 (.int .u8 0) 1 Try.underlying22 hi hz0 hz1 _ _ _ _ p.length rfl rfl (by omega) (by omega) (by rw [hz2]; omega) (by unfold maxLen; omega) (Nat.zero_le _) ?_)
  intro w1 hown hgrow
  have hb1 : Below w.heap.size w w1 := (Below.refl _ _).grown hgrow (Nat.le_refl _) (fun k h => by cases h)
  have hbuf : Buf w1 w.heap.size p.length (List.replicate p.length 0) := buf_made hown
  have hglt := hbuf.lt
  have HB1 := Lib.hid hb1
  have HBUF := Lib.hid hbuf
  have HP1 := Lib.hid (HP.out.later hb1)
  clear hown hgrow hb1 hbuf
  go_wp2_with fail
  refine (make_any _).mono ?_; rintro e w2 ⟨n, C, hC, rfl, hw2⟩
  have hT2 : TabAt w2 w1.heap.size C := by rw [hw2]; exact TabAt.made hC
  have hb2 : Below w1.heap.size w1 w2 := by rw [hw2]; exact made_below
  have hcal := addScaled_any (List.replicate p.length 0) p a 0 w.heap.size p.length w1.heap.size C o c w2 (HBUF.out.later hb2) (HP1.out.later hb2) hT2 (by omega) HAP.out (by simp) p.length p.length (Nat.le_refl _) (Nat.le_refl _) (by unfold maxLen; omega)
  rw [mix_scale] at hcal
  have HCAL := Lib.hid hcal
  have HB2 := Lib.hid (Kit.step HB1.out hb2)
  clear hC hw2 hT2 hb2 hcal
  go_wp2_with fail
  refine HCAL.out.mono ?_; rintro e w3 ⟨⟨v3, rfl⟩, hb3, ho3⟩
  have HB3 := Lib.hid (HB2.out.trans (ho3.below (Nat.le_refl _) HB2.out.size))
  have hcut := cut_any _ _ _ w3 hb3.row
  have HL : Hid ((scaleL p a).length = p.length) := Lib.hid (by simp [scaleL])
  rw [HL.out] at hcut
  have HCUT := Lib.hid hcut
  clear hb3 ho3 hcut HCAL
  go_wp2_with fail
  refine HCUT.out.mono ?_; rintro e w4 ⟨rfl, hb4, hr4⟩
  have HB4 := Lib.hid (Kit.step HB3.out hb4)
  have HR4 := Lib.hid hr4
  clear hb4 hr4 HCUT
  go_wp2_with fail
  go_ret
  exact ⟨_, rfl, ⟨_, _, rfl, HR4.out⟩, HB4.out⟩
theorem scale_mul (p : List UInt8) (a : UInt8) : tr (scaleL p a) = tr (mulL p [a]) := tr_congr fun k => by
  rw [co_scaleL, co_mulL']
  show _ = Gf.sm _ k ^^^ Gf.gm (co p k) (co [a] (k - k))
  rw [Gf.sm_zero, UInt8.zero_xor, Nat.sub_self]
  · rfl
  · intro i hi
    rw [co_ge (z := [a]) (by simp; omega), Gf.gm_zero]
/-- how many coefficients Low leaves -/
def lowN (n : Int) (len : Nat) : Nat := if n < 0 then 0 else if (len : Int) < n then len else n.toNat
theorem lowN_le (n : Int) (len : Nat) : lowN n len ≤ len := by
  unfold lowN
  split
  · omega
  · split <;> omega
theorem low_any (p : List UInt8) (n : Int) (o : Option Addr) (c : Nat) (w : World) (hP : RowIs w o (bytesV p) c) (hl : p.length ≤ 1000000) :
    Calls Try.prog 19 #[.slice o p.length c, .int .i64 n] w (Rows (tr (p.take (lowN n p.length))) w) := by
  have h1 := hP.le
  have h2 := hP.cap
  simp only [bytesV_length] at h1
  unfold maxLen at h2
  have hlow := lowN_le n p.length
  have hlen : (p.take (lowN n p.length)).length = lowN n p.length := by simp; omega
  have hcal := trim_any (p.take (lowN n p.length)) o c w (hP.take _) (by omega)
  rw [hlen] at hcal
  have HCAL := Lib.hid hcal
  clear hP hcal hlen
  by_cases hn : n < 0
  · have e : lowN n p.length = 0 := by unfold lowN; rw [if_pos hn]
    rw [e] at HCAL ⊢
    clear e hlow
    go_enter Try.func19, Try.ntmps19
    go_wp2_with fail
    refine HCAL.out.mono ?_; rintro e w1 ⟨x, rfl, hr, hb⟩
    have HR := Lib.hid hr
    have HB := Lib.hid hb
    clear hr hb HCAL
    go_wp2_with fail
    go_ret
    exact ⟨x, rfl, HR.out, HB.out⟩
  · by_cases hm : (p.length : Int) < n
    · have e : lowN n p.length = p.length := by unfold lowN; rw [if_neg hn, if_pos hm]
      rw [e] at HCAL ⊢
      have hn0 : ¬ (0 : Int) > n := by omega
      have hn2 : ¬ n < 0 := hn
      clear e hlow
      go_enter Try.func19, Try.ntmps19
      go_wp2_with fail
      refine HCAL.out.mono ?_; rintro e w1 ⟨x, rfl, hr, hb⟩
      have HR := Lib.hid hr
      have HB := Lib.hid hb
      clear hr hb HCAL
      go_wp2_with fail
      go_ret
      exact ⟨x, rfl, HR.out, HB.out⟩
    · obtain ⟨k, rfl⟩ := Int.eq_ofNat_of_zero_le (show 0 ≤ n by omega)
      have e : lowN (k : Int) p.length = k := by unfold lowN; rw [if_neg hn, if_neg hm]; rfl
      rw [e] at HCAL ⊢
      have hk : k ≤ p.length := by omega
      clear e hlow hn
      go_enter Try.func19, Try.ntmps19
      go_wp2_with fail
      refine HCAL.out.mono ?_; rintro e w1 ⟨x, rfl, hr, hb⟩
      have HR := Lib.hid hr
      have HB := Lib.hid hb
      clear hr hb HCAL
      go_wp2_with fail
      go_ret
      exact ⟨x, rfl, HR.out, HB.out⟩
end Go.Proofs.Ytbmafnippbjpnaa
