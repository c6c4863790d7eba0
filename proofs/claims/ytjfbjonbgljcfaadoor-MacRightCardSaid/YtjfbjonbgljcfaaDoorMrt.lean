/- MacRight. -/
import Derived.Test.YtjfbjonbgljcfaaDoorMt8
import Derived.Test.YtjfbjonbgljcfaaDoorStq
namespace Go.Proofs.YtjfbjonbgljcfaaDoor
open Go.RowKit
set_option linter.unusedVariables false
set_option linter.unusedSimpArgs false
def Onep (m : List UInt8) (x : Value) (v : World) : Prop := RbV [m] x v
theorem Onep.later {m : List UInt8} {x : Value} {v v' : World} (h : Onep m x v) (hb : Below v.heap.size v v') : Onep m x v' := RbV.later h hb
/-- what each operation of the region has as its result -/
def MrG (k m t tg : List UInt8) (gk : Nat) (q1 q2 : Bool) (i : Nat) (x : Value) (v : World) : Prop :=
  match i with
  | 0 => (x) = .pointer (some ⟨gk, 0, none⟩)
  | 1 | 5 | 14 | 17 => RowV (t) (x) v
  | 2 | 8 | 15 | 19 | 25 | 26 => RowV (m) (x) v
  | 3 => Onep m (x) v
  | 4 | 11 => (x) = .bool q1
  | 6 | 18 => (x) = .string ⟨(t).toArray⟩
  | 7 => RowV (k) (x) v
  | 9 => RowV (tg) (x) v
  | 10 => (x) = .string ⟨(tg).toArray⟩
  | 16 | 21 => (x) = .bool q2
  | 20 => (x) = .string ⟨(m).toArray⟩
  | _ => (x) = .bool true
theorem MrG.later {k m t tg : List UInt8} {gk : Nat} {q1 q2 : Bool} (i : Nat) (x : Value) (v v' : World) (h : MrG k m t tg gk q1 q2 i x v) (hb : Below v.heap.size v v') : MrG k m t tg gk q1 q2 i x v' := by
  unfold MrG at *
  split at h <;> first | exact h | exact h.later hb
set_option maxRecDepth 100000 in
set_option maxHeartbeats 4000000 in
theorem mr_any (k m t : List UInt8) (ok om ot : Option Addr) (ck cm ct : Nat) (W : World) (hK : RowIs W ok (bytesV k) ck) (hM : RowIs W om (bytesV m) cm) (hT : RowIs W ot (bytesV t) ct) (hC : Cds W) (hD : Rds W) :
    Calls Tryd.prog 4 #[.slice ok k.length ck, .slice om m.length cm, .slice ot t.length ct] W fun e w' => e = .returned (.bool true) ∧ Below W.heap.size W w' := by
  have AL := Lib.hid (alive8_any W hC)
  have hk1 := hK.le
  have hk2 := hK.cap
  have hm1 := hM.le
  have hm2 := hM.cap
  have ht1 := hT.le
  have ht2 := hT.cap
  simp only [bytesV_length] at hk1 hm1 ht1
  unfold maxLen at hk2 hm2 ht2
  have HK := Lib.hid hK
  have HM := Lib.hid hM
  have HT := Lib.hid hT
  have HC := Lib.hid hC
  have HD := Lib.hid hD
  clear hK hM hT hC hD
  go_enter Tryd.func4, Tryd.ntmps4
  go_wp2_with fail
  refine AL.out.mono ?_
  rintro e W1 ⟨rfl, hb1⟩
  have HB1 := Lib.hid hb1
  clear hb1 AL
  by_cases hz3 : 300 < k.length
  · have hd : decide ((k.length : Int) > 300) = true := by simp; omega
    go_wp2_with fail
    go_ret
    exact ⟨rfl, HB1.out⟩
  have hd : decide ((k.length : Int) > 300) = false := by simp; omega
  by_cases hb3 : 300 < m.length
  · have hd2 : decide ((m.length : Int) > 300) = true := by simp; omega
    go_wp2_with fail
    go_ret
    exact ⟨rfl, HB1.out⟩
  have hd2 : decide ((m.length : Int) > 300) = false := by simp; omega
  by_cases hb4 : 60 < t.length
  · have hd3 : decide ((t.length : Int) > 60) = true := by simp; omega
    go_wp2_with fail
    go_ret
    exact ⟨rfl, HB1.out⟩
  have hd3 : decide ((t.length : Int) > 60) = false := by simp; omega
  go_wp2_with fail
  refine (kmake_any k ok ck W1 (HK.out.later HB1.out) (HC.out.later HB1.out) (by omega)).mono ?_
  rintro e w2 ⟨rfl, ha2, hb2⟩
  have HB2 := Lib.hid (Kit.step HB1.out hb2)
  obtain ⟨gk, hgk⟩ : ∃ gk, W1.heap.size = gk := ⟨_, rfl⟩
  rw [hgk] at ha2 ⊢
  have HKA := Lib.hid ha2
  clear hb2 ha2 hgk
  obtain ⟨tg, hh⟩ : ∃ tg, (Da.hmac k m).take 8 = tg := ⟨_, rfl⟩
  have hhl : tg.length = 8 := by rw [← hh, List.length_take, Da.hmac_length]; rfl
  obtain ⟨q1, hr2⟩ : ∃ q1, (t == tg) = q1 := ⟨_, rfl⟩
  obtain ⟨q2, hr3⟩ : ∃ q2, (t == m) = q2 := ⟨_, rfl⟩
  have hr1 : (t == (Da.hmac k ([m] : List (List UInt8)).flatten).take 8) = q1 := by rw [show ([m] : List (List UInt8)).flatten = m by simp, hh, hr2]
  have HH := Lib.hid hh
  have HR1 := Lib.hid hr1
  have HR2 := Lib.hid hr2
  have HR3 := Lib.hid hr3
  clear hh hr1 hr2 hr3
  go_upto_region 6 with fail
  have hh := HH.out
  have hr1 := HR1.out
  have hr2 := HR2.out
  have hr3 := HR3.out
  have hKA := HKA.out
  have hk : RowV k (.slice ok k.length ck) w2 := ⟨_, _, rfl, HK.out.later HB2.out⟩
  have hm : RowV m (.slice om m.length cm) w2 := ⟨_, _, rfl, HM.out.later HB2.out⟩
  have ht : RowV t (.slice ot t.length ct) w2 := ⟨_, _, rfl, HT.out.later HB2.out⟩
  have hC2 := HC.out.later HB2.out
  have hD2 := HD.out.later HB2.out
  refine Rg.region_grow (by kernel_rfl) (MrG k m t tg gk q1 q2) (by kernel_rfl) MrG.later ?gd ?step ?fin
  case gd =>
    intro i op k t ho hg x v hG
    have hi := (Array.getElem?_eq_some_iff.1 ho).1
    match i, hi with
    | 0, _ =>
      obtain rfl := Option.some.inj ho
      cases hg
    | 1, _ =>
      obtain rfl := Option.some.inj ho
      cases hg
    | 2, _ =>
      obtain rfl := Option.some.inj ho
      cases hg
    | 3, _ =>
      obtain rfl := Option.some.inj ho
      cases hg
    | 4, _ =>
      obtain rfl := Option.some.inj ho
      cases hg
    | 5, _ =>
      obtain rfl := Option.some.inj ho
      cases hg
    | 6, _ =>
      obtain rfl := Option.some.inj ho
      cases hg
    | 7, _ =>
      obtain rfl := Option.some.inj ho
      cases hg
    | 8, _ =>
      obtain rfl := Option.some.inj ho
      cases hg
    | 9, _ =>
      obtain rfl := Option.some.inj ho
      cases hg
    | 10, _ =>
      obtain rfl := Option.some.inj ho
      cases hg
    | 11, _ =>
      obtain rfl := Option.some.inj ho
      cases hg
    | 12, _ =>
      obtain rfl := Option.some.inj ho
      cases hg
    | 13, _ =>
      obtain rfl := Option.some.inj ho
      cases hg
    | 14, _ =>
      obtain rfl := Option.some.inj ho
      obtain ⟨rfl, rfl⟩ : 13 = k ∧ true = t := by simpa using hg
      exact hG
    | 15, _ =>
      obtain rfl := Option.some.inj ho
      obtain ⟨rfl, rfl⟩ : 13 = k ∧ true = t := by simpa using hg
      exact hG
    | 16, _ =>
      obtain rfl := Option.some.inj ho
      obtain ⟨rfl, rfl⟩ : 13 = k ∧ true = t := by simpa using hg
      exact hG
    | 17, _ =>
      obtain rfl := Option.some.inj ho
      obtain ⟨rfl, rfl⟩ : 13 = k ∧ true = t := by simpa using hg
      exact hG
    | 18, _ =>
      obtain rfl := Option.some.inj ho
      obtain ⟨rfl, rfl⟩ : 13 = k ∧ true = t := by simpa using hg
      exact hG
    | 19, _ =>
      obtain rfl := Option.some.inj ho
      obtain ⟨rfl, rfl⟩ : 13 = k ∧ true = t := by simpa using hg
      exact hG
    | 20, _ =>
      obtain rfl := Option.some.inj ho
      obtain ⟨rfl, rfl⟩ : 13 = k ∧ true = t := by simpa using hg
      exact hG
    | 21, _ =>
      obtain rfl := Option.some.inj ho
      obtain ⟨rfl, rfl⟩ : 13 = k ∧ true = t := by simpa using hg
      exact hG
    | 22, _ =>
      obtain rfl := Option.some.inj ho
      obtain ⟨rfl, rfl⟩ : 13 = k ∧ true = t := by simpa using hg
      exact hG
    | 23, _ =>
      obtain rfl := Option.some.inj ho
      cases hg
    | 24, _ =>
      obtain rfl := Option.some.inj ho
      cases hg
    | 25, _ =>
      obtain rfl := Option.some.inj ho
      obtain ⟨rfl, rfl⟩ : 24 = k ∧ true = t := by simpa using hg
      exact hG
    | 26, _ =>
      obtain rfl := Option.some.inj ho
      obtain ⟨rfl, rfl⟩ : 24 = k ∧ true = t := by simpa using hg
      exact hG
    | 27, _ =>
      obtain rfl := Option.some.inj ho
      obtain ⟨rfl, rfl⟩ : 24 = k ∧ true = t := by simpa using hg
      exact hG
    | 28, _ =>
      obtain rfl := Option.some.inj ho
      cases hg
    | 29, _ =>
      obtain rfl := Option.some.inj ho
      cases hg
    | n + 30, h => exact absurd h (by simp)
  case step =>
    intro i op b v ho hb hrest hdep
    have r7 : b.eval (.tmp 7) = .pointer (some ⟨gk, 0, none⟩) := hrest 7 (Rg.free_spec (by kernel_rfl))
    have r2 : b.eval (.tmp 2) = .slice ot t.length ct := hrest 2 (Rg.free_spec (by kernel_rfl))
    have r1 : b.eval (.tmp 1) = .slice om m.length cm := hrest 1 (Rg.free_spec (by kernel_rfl))
    have r0 : b.eval (.tmp 0) = .slice ok k.length ck := hrest 0 (Rg.free_spec (by kernel_rfl))
    have hi := (Array.getElem?_eq_some_iff.1 ho).1
    match i, hi with
    | 0, _ =>
      obtain rfl := Option.some.inj ho
      have d1 : b.eval (.tmp 7) = .pointer (some ⟨gk, 0, none⟩) := r7
      exact Rg.does_move rfl d1
    | 1, _ =>
      obtain rfl := Option.some.inj ho
      have d1 : RowV (t) (b.eval (.tmp 2)) v := by rw [r2]; exact ht.later hb
      exact Rg.does_move rfl d1
    | 2, _ =>
      obtain rfl := Option.some.inj ho
      have d1 : RowV (m) (b.eval (.tmp 1)) v := by rw [r1]; exact hm.later hb
      exact Rg.does_move rfl d1
    | 3, _ =>
      obtain rfl := Option.some.inj ho
      have d1 : RowV m (b.eval (.tmp 27)) v := hdep ⟨2, .data⟩ (by simp) rfl _ _ rfl rfl
      have f1 : b.tmps[27]?.getD undef = b.eval (.tmp 27) := by simp [Act.eval]
      generalize b.eval (.tmp 27) = x1 at d1 f1
      have hrun := one_rv d1
      obtain ⟨o1, c1, rfl, _⟩ := d1
      refine Rg.does_new (v' := v.alloc (.cells #[.slice o1 m.length c1] 22)) (.slice (some ⟨v.heap.size, 0, none⟩) 1 1) ?_ hrun ((Below.refl _ _).alloc (Nat.le_refl _) _)
      simp only [execOp]
      go_simp
    | 4, _ =>
      obtain rfl := Option.some.inj ho
      have d1 : (b.eval (.tmp 25)) = .pointer (some ⟨gk, 0, none⟩) := hdep ⟨0, .data⟩ (by simp) rfl _ _ rfl rfl
      have d2 : RowV (t) (b.eval (.tmp 26)) v := hdep ⟨1, .data⟩ (by simp) rfl _ _ rfl rfl
      have d3 : Onep m (b.eval (.tmp 28)) v := hdep ⟨3, .data⟩ (by simp) rfl _ _ rfl rfl
      exact Rg.does_fn rfl (enters_of Tryd.func12 (by kernel_rfl) rfl) (args := #[b.eval (.tmp 25), b.eval (.tmp 26), b.eval (.tmp 28)]) (by simp) (by have := kright_rv (hKA.later hb hKA.lt) d1 d2 d3 (hC2.later hb) (by omega) (by simp; omega) (by simp); rw [hr1] at this; exact this)
    | 5, _ =>
      obtain rfl := Option.some.inj ho
      have d1 : RowV (t) (b.eval (.tmp 2)) v := by rw [r2]; exact ht.later hb
      exact Rg.does_move rfl d1
    | 6, _ =>
      obtain rfl := Option.some.inj ho
      have d1 : RowV (t) (b.eval (.tmp 30)) v := hdep ⟨5, .data⟩ (by simp) rfl _ _ rfl rfl
      exact Rg.does_conv rfl (conv_rv d1) (rfl)
    | 7, _ =>
      obtain rfl := Option.some.inj ho
      have d1 : RowV (k) (b.eval (.tmp 0)) v := by rw [r0]; exact hk.later hb
      exact Rg.does_move rfl d1
    | 8, _ =>
      obtain rfl := Option.some.inj ho
      have d1 : RowV (m) (b.eval (.tmp 1)) v := by rw [r1]; exact hm.later hb
      exact Rg.does_move rfl d1
    | 9, _ =>
      obtain rfl := Option.some.inj ho
      have d1 : RowV (k) (b.eval (.tmp 32)) v := hdep ⟨7, .data⟩ (by simp) rfl _ _ rfl rfl
      have d2 : RowV (m) (b.eval (.tmp 33)) v := hdep ⟨8, .data⟩ (by simp) rfl _ _ rfl rfl
      exact Rg.does_fn rfl (enters_of Tryd.func14 (by kernel_rfl) rfl) (args := #[b.eval (.tmp 32), b.eval (.tmp 33)]) (by simp) (by have := rtag_rv d1 d2 (hD2.later hb) (by omega) (by omega); rw [hh] at this; exact this)
    | 10, _ =>
      obtain rfl := Option.some.inj ho
      have d1 : RowV (tg) (b.eval (.tmp 34)) v := hdep ⟨9, .data⟩ (by simp) rfl _ _ rfl rfl
      exact Rg.does_conv rfl (conv_rv d1) (rfl)
    | 11, _ =>
      obtain rfl := Option.some.inj ho
      have d1 : (b.eval (.tmp 31)) = .string ⟨(t).toArray⟩ := hdep ⟨6, .data⟩ (by simp) rfl _ _ rfl rfl
      have d2 : (b.eval (.tmp 35)) = .string ⟨(tg).toArray⟩ := hdep ⟨10, .data⟩ (by simp) rfl _ _ rfl rfl
      have f1 : b.tmps[31]?.getD undef = _ := (show _ = b.eval (.tmp 31) by simp [Act.eval]).trans d1
      have f2 : b.tmps[35]?.getD undef = _ := (show _ = b.eval (.tmp 35) by simp [Act.eval]).trans d2
      refine Rg.does_pure (.bool q1) ?_ rfl
      have hu := Tryd.underlying9
      simp only [execOp]
      go_simp
    | 12, _ =>
      obtain rfl := Option.some.inj ho
      have d1 : (b.eval (.tmp 29)) = .bool q1 := hdep ⟨4, .data⟩ (by simp) rfl _ _ rfl rfl
      have d2 : (b.eval (.tmp 36)) = .bool q1 := hdep ⟨11, .data⟩ (by simp) rfl _ _ rfl rfl
      have f1 : b.tmps[29]?.getD undef = _ := (show _ = b.eval (.tmp 29) by simp [Act.eval]).trans d1
      have f2 : b.tmps[36]?.getD undef = _ := (show _ = b.eval (.tmp 36) by simp [Act.eval]).trans d2
      refine Rg.does_pure (.bool true) ?_ rfl
      simp only [execOp]
      go_simp
    | 13, _ =>
      obtain rfl := Option.some.inj ho
      have d1 : (b.eval (.tmp 37)) = .bool true := hdep ⟨12, .data⟩ (by simp) rfl _ _ rfl rfl
      exact Rg.does_move rfl d1
    | 14, _ =>
      obtain rfl := Option.some.inj ho
      have d1 : RowV (t) (b.eval (.tmp 2)) v := by rw [r2]; exact ht.later hb
      exact Rg.does_move rfl d1
    | 15, _ =>
      obtain rfl := Option.some.inj ho
      have d1 : RowV (m) (b.eval (.tmp 1)) v := by rw [r1]; exact hm.later hb
      exact Rg.does_move rfl d1
    | 16, _ =>
      obtain rfl := Option.some.inj ho
      have d1 : RowV (t) (b.eval (.tmp 39)) v := hdep ⟨14, .data⟩ (by simp) rfl _ _ rfl rfl
      have d2 : RowV (m) (b.eval (.tmp 40)) v := hdep ⟨15, .data⟩ (by simp) rfl _ _ rfl rfl
      exact Rg.does_fn rfl (enters_of Tryd.func15 (by kernel_rfl) rfl) (args := #[b.eval (.tmp 39), b.eval (.tmp 40)]) (by simp) (by have := same_rv d1 d2 (by omega) (by omega); rw [hr3] at this; exact this)
    | 17, _ =>
      obtain rfl := Option.some.inj ho
      have d1 : RowV (t) (b.eval (.tmp 2)) v := by rw [r2]; exact ht.later hb
      exact Rg.does_move rfl d1
    | 18, _ =>
      obtain rfl := Option.some.inj ho
      have d1 : RowV (t) (b.eval (.tmp 42)) v := hdep ⟨17, .data⟩ (by simp) rfl _ _ rfl rfl
      exact Rg.does_conv rfl (conv_rv d1) (rfl)
    | 19, _ =>
      obtain rfl := Option.some.inj ho
      have d1 : RowV (m) (b.eval (.tmp 1)) v := by rw [r1]; exact hm.later hb
      exact Rg.does_move rfl d1
    | 20, _ =>
      obtain rfl := Option.some.inj ho
      have d1 : RowV (m) (b.eval (.tmp 44)) v := hdep ⟨19, .data⟩ (by simp) rfl _ _ rfl rfl
      exact Rg.does_conv rfl (conv_rv d1) (rfl)
    | 21, _ =>
      obtain rfl := Option.some.inj ho
      have d1 : (b.eval (.tmp 43)) = .string ⟨(t).toArray⟩ := hdep ⟨18, .data⟩ (by simp) rfl _ _ rfl rfl
      have d2 : (b.eval (.tmp 45)) = .string ⟨(m).toArray⟩ := hdep ⟨20, .data⟩ (by simp) rfl _ _ rfl rfl
      have f1 : b.tmps[43]?.getD undef = _ := (show _ = b.eval (.tmp 43) by simp [Act.eval]).trans d1
      have f2 : b.tmps[45]?.getD undef = _ := (show _ = b.eval (.tmp 45) by simp [Act.eval]).trans d2
      refine Rg.does_pure (.bool q2) ?_ rfl
      have hu := Tryd.underlying9
      simp only [execOp]
      go_simp
    | 22, _ =>
      obtain rfl := Option.some.inj ho
      have d1 : (b.eval (.tmp 41)) = .bool q2 := hdep ⟨16, .data⟩ (by simp) rfl _ _ rfl rfl
      have d2 : (b.eval (.tmp 46)) = .bool q2 := hdep ⟨21, .data⟩ (by simp) rfl _ _ rfl rfl
      have f1 : b.tmps[41]?.getD undef = _ := (show _ = b.eval (.tmp 41) by simp [Act.eval]).trans d1
      have f2 : b.tmps[46]?.getD undef = _ := (show _ = b.eval (.tmp 46) by simp [Act.eval]).trans d2
      refine Rg.does_pure (.bool true) ?_ rfl
      simp only [execOp]
      go_simp
    | 23, _ =>
      obtain rfl := Option.some.inj ho
      have d1 : (b.eval (.tmp 38)) = .bool true := hdep ⟨13, .data⟩ (by simp) rfl _ _ rfl rfl
      have d2 : (b.eval (.tmp 47)) = .bool true := hdep ⟨22, .data⟩ (by simp) rfl _ _ rfl rfl
      exact Rg.does_pick rfl d1 d2
    | 24, _ =>
      obtain rfl := Option.some.inj ho
      have d1 : (b.eval (.tmp 48)) = .bool true := hdep ⟨23, .data⟩ (by simp) rfl _ _ rfl rfl
      exact Rg.does_move rfl d1
    | 25, _ =>
      obtain rfl := Option.some.inj ho
      have d1 : RowV (m) (b.eval (.tmp 1)) v := by rw [r1]; exact hm.later hb
      exact Rg.does_move rfl d1
    | 26, _ =>
      obtain rfl := Option.some.inj ho
      have d1 : RowV (m) (b.eval (.tmp 1)) v := by rw [r1]; exact hm.later hb
      exact Rg.does_move rfl d1
    | 27, _ =>
      obtain rfl := Option.some.inj ho
      have d1 : RowV (m) (b.eval (.tmp 50)) v := hdep ⟨25, .data⟩ (by simp) rfl _ _ rfl rfl
      have d2 : RowV (m) (b.eval (.tmp 51)) v := hdep ⟨26, .data⟩ (by simp) rfl _ _ rfl rfl
      exact Rg.does_fn rfl (enters_of Tryd.func15 (by kernel_rfl) rfl) (args := #[b.eval (.tmp 50), b.eval (.tmp 51)]) (by simp) (by have := same_rv d1 d2 (by omega) (by omega); rw [beq_self_eq_true] at this; exact this)
    | 28, _ =>
      obtain rfl := Option.some.inj ho
      have d1 : (b.eval (.tmp 49)) = .bool true := hdep ⟨24, .data⟩ (by simp) rfl _ _ rfl rfl
      have d2 : (b.eval (.tmp 52)) = .bool true := hdep ⟨27, .data⟩ (by simp) rfl _ _ rfl rfl
      exact Rg.does_pick rfl d1 d2
    | 29, _ =>
      obtain rfl := Option.some.inj ho
      have d1 : (b.eval (.tmp 53)) = .bool true := hdep ⟨28, .data⟩ (by simp) rfl _ _ rfl rfl
      exact Rg.does_assign rfl d1
    | n + 30, h => exact absurd h (by simp)
  case fin =>
    intro b v2 hb2 hs hd hrest hall
    have h6 : b.tmps.getD 6 undef = .bool true := hall 29 _ 6 rfl rfl
    have HB := Lib.hid (Kit.step HB2.out hb2)
    go_wp2
    refine bodyPost_ret (results_tmp rfl _ _ _) hd ?_
    exact ⟨by rw [h6], HB.out⟩
end Go.Proofs.YtjfbjonbgljcfaaDoor
