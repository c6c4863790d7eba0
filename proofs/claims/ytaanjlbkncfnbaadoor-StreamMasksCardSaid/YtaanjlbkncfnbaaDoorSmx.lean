/- StreamMasks. -/
import Derived.Test.YtaanjlbkncfnbaaDoorRs
import Derived.Test.YtaanjlbkncfnbaaDoorSc
import Derived.Test.YtaanjlbkncfnbaaDoorRbk
import Derived.Test.YtaanjlbkncfnbaaDoorOrb
namespace Go.Proofs.YtaanjlbkncfnbaaDoor
open Go.RowKit
set_option linter.unusedVariables false
set_option linter.unusedSimpArgs false
theorem own_laterT {T : TypeId} {W W' : World} {n : Nat} {v : Value} {xs : List Value} {m : Nat} (h : W.ownsRow n T 1 v m xs) (hb : Below W.heap.size W W') : W'.ownsRow n T 1 v m xs := by
  obtain ⟨h1, h2 | ⟨g, cap, cur, e, hbs, hg, hr⟩⟩ := h
  · exact ⟨h1, .inl h2⟩
  · exact ⟨h1, .inr ⟨g, cap, cur, e, hbs, by rw [hb.block g (Array.getElem?_eq_some_iff.1 hg).1]; exact hg, hr⟩⟩
def SxA (k : List UInt8) (n : Int) (bs : List (List UInt8)) (w : World) (v bad i : Value) (wr : World) : Prop :=
  ∃ (p q m : Nat) (xs : List Value), p ≤ bs.length ∧ i = .int .i64 p ∧ bad = .int .i64 q ∧ m ≤ p ∧ wr.ownsRow w.heap.size 22 1 v m xs ∧ Below w.heap.size w wr ∧
    ((q = 0 ∧ Da.mbs n bs = Da.mbs (n + p) (bs.drop p) ∧ (0 < p → 0 ≤ n ∧ n + p ≤ 1099511627777) ∧ m = p ∧ ElsB w.heap.size wr (Da.mkL k n (bs.take p)) xs) ∨ (q ≠ 0 ∧ Da.mbs n bs = q))
set_option maxRecDepth 100000 in
set_option maxHeartbeats 4000000 in
theorem smx_any (k : List UInt8) (o : Option Addr) (c : Nat) (n : Int) (bs : List (List UInt8)) (ob : Option Addr) (cb : Nat) (A : Nat → Addr) (w : World) (hK : RowIs w o (bytesV k) c) (hB : RbIs w ob bs cb) (hV : Cds w) (hD : Rds w) (hE : Er.Errs w A) (hn1 : -9223372036854775808 ≤ n) (hn2 : n ≤ 9223372036854775807) :
    Calls Tryd.prog 4 #[.slice o k.length c, .int .i64 n, .slice ob bs.length cb] w fun e w' => e = .returned (.bool true) ∧ Below w.heap.size w w' := by
  have hmf := @makes Tryd.prog
  have hk1 := hK.le
  have hk2 := hK.cap
  have hb1 := hB.le.1
  have hb2 := hB.le.2
  simp only [bytesV_length] at hk1
  unfold maxLen at hk2 hb2
  have HK := Lib.hid hK
  have HBS := Lib.hid hB
  have HV := Lib.hid hV
  have HD := Lib.hid hD
  have HE := Lib.hid hE
  have AL := Lib.hid (alive10_any w hV)
  obtain ⟨N, hN⟩ : ∃ N, bs.length = N := ⟨_, rfl⟩
  have HN := Lib.hid hN
  rw [hN] at hb1 ⊢
  obtain ⟨Lk, hLk⟩ : ∃ Lk, k.length = Lk := ⟨_, rfl⟩
  have HLK := Lib.hid hLk
  rw [hLk] at hk1 ⊢
  clear hK hB hV hD hE hN hLk
  go_enter Tryd.func4, Tryd.ntmps4
  go_wp2_with fail
  refine AL.out.mono ?_
  rintro e W1 ⟨rfl, hb1⟩
  have HB1 := Lib.hid hb1
  by_cases hz1 : 200 < Lk
  · have hd : decide ((Lk : Int) > 200) = true := by simp; omega
    clear hb1 AL
    go_wp2_with fail
    go_ret
    exact ⟨rfl, HB1.out⟩
  have hd : decide ((Lk : Int) > 200) = false := by simp; omega
  by_cases hz2 : 20 < N
  · have hd2 : decide ((N : Int) > 20) = true := by simp; omega
    clear hb1 AL
    go_wp2_with fail
    go_ret
    exact ⟨rfl, HB1.out⟩
  have hd2 : decide ((N : Int) > 20) = false := by simp; omega
  obtain ⟨g1, hg1⟩ : ∃ g1, W1.heap.size = g1 := ⟨_, rfl⟩
  obtain ⟨W2, hW2⟩ : ∃ W2, W1.alloc (.cells #[] 22) = W2 := ⟨_, rfl⟩
  have hb2 : Below W1.heap.size W1 W2 := by rw [← hW2]; exact (Below.refl _ _).alloc (Nat.le_refl _) _
  have HX0 : Hid (SxA k n bs w (.slice (some ⟨g1, 0, none⟩) 0 0) (.int .i64 0) (.int .i64 0) W2) := Lib.hid ⟨0, 0, 0, [], Nat.zero_le _, rfl, rfl, Nat.le_refl _, by rw [← hW2, ← hg1]; exact World.ownsRow_lit W1 #[] 0 hb1.size (Nat.zero_le _) rfl, Kit.step hb1 hb2, .inl ⟨rfl, by simp, fun h => by omega, rfl, ElsB.nil _ _⟩⟩
  have HW2 := Lib.hid hW2
  have HG1 := Lib.hid hg1
  clear hb1 AL hb2 hW2 hg1
  go_wp2_with (first | rw [HW2.out, HG1.out])
  go_loopw [7, 8, 29] (fun v bad i wr => SxA k n bs w v bad i wr) (fun _ _ i _ => N - (intOf i).toNat)
  case atStart => exact HX0.out
  case round =>
    rename World => Y1
    obtain ⟨p, q, m, xs, hp, rfl, rfl, hmp, hown, hb, hst⟩ := hrel
    rw [HN.out] at hp
    by_cases hlt : p < N
    · obtain ⟨bb, off, ad, cq, rfl, _, hc, hrow⟩ := (HBS.out.later hb).cell p (by rw [HN.out]; exact hlt)
      have hl1 := hrow.le
      have hl2 := hrow.cap
      rw [bytesV_length] at hl1
      unfold maxLen at hl2
      have HROW := Lib.hid hrow
      obtain ⟨L, hL⟩ : ∃ L, (bi bs p).length = L := ⟨_, rfl⟩
      have HL := Lib.hid hL
      rw [hL] at hc hl1
      have HB := Lib.hid hb
      have HO := Lib.hid hown
      have HST := Lib.hid hst
      clear hb hrow hL hown HX0
      by_cases h4 : 40 < L
      · have hd3 : decide ((L : Int) > 40) = true := by simp; omega
        clear hst
        go_wp2_with fail
        go_ret
        exact ⟨rfl, HB.out⟩
      have hd3 : decide ((L : Int) > 40) = false := by simp; omega
      by_cases hq : q = 0
      · subst hq
        rcases hst with ⟨_, hm1, hr, hme, hels⟩ | ⟨hne, _⟩
        case inr => exact absurd rfl hne
        have hme2 := hme.symm
        subst hme2
        clear hme
        obtain ⟨q2, hq2⟩ : ∃ q2, Da.mb (bi bs p) (n + p) = q2 := ⟨_, rfl⟩
        have RM : ∀ at_ : Int, at_ = n + p → Calls Tryd.prog 12 #[.slice o Lk c, .int .i64 at_, .slice ad L cq] Y1 fun e w' => ∃ x, e = .returned (.tuple #[x, .int .i64 (q2 : Nat)]) ∧ RowV (Da.mk1 k (n + p) (bi bs p)) x w' ∧ (∀ base, KindB base w' x) ∧ Below Y1.heap.size Y1 w' := by
          rintro at_ rfl
          have := rmask_any k o c (n + p) (bi bs p) ad cq Y1 (HK.out.later HB.out) HROW.out (HD.out.later HB.out) (by rw [HLK.out]; omega)
          rw [HLK.out, HL.out, hq2] at this
          exact this
        have HRM := Lib.hid RM
        have HM1 := Lib.hid hm1
        have HQ2 := Lib.hid hq2
        have HR := Lib.hid hr
        have HELS := Lib.hid hels
        have h0 : 0 < p → 0 ≤ n ∧ n + p ≤ 1099511627777 := hr
        clear hm1 hr hels RM hq2
        rcases (show (0 ≤ n ∧ n ≤ 1099511627776) ∨ (0 ≤ n ∧ ¬ n ≤ 1099511627776) ∨ ¬ 0 ≤ n by omega) with ⟨g1, g2⟩ | ⟨g1, g2⟩ | g1
        case' inl =>
          have e1 : decide (n ≥ 0) = true := by simp; omega
          have e2 : decide (n ≤ 1099511627776) = true := by simp; omega
          have hwr : IntKind.i64.wrap (n + (p : Int)) = n + (p : Int) := by rw [IntKind.wrap_i64]; omega
          clear h0
          go_wp2_with fail
          refine (HRM.out _ rfl).mono ?_
        case' inr.inl =>
          have e1 : decide (n ≥ 0) = true := by simp; omega
          have e2 : decide (n ≤ 1099511627776) = false := by simp; omega
          have hp0 : p = 0 := by rcases Nat.eq_zero_or_pos p with h | h; exact h; have := h0 h; omega
          have HNP : Hid (n = n + (p : Int)) := Lib.hid (by omega)
          clear h0 hp0
          go_wp2_with fail
          refine (HRM.out _ HNP.out).mono ?_
        case' inr.inr =>
          have e1 : decide (n ≥ 0) = false := by simp; omega
          have hp0 : p = 0 := by rcases Nat.eq_zero_or_pos p with h | h; exact h; have := h0 h; omega
          have HNP : Hid (n = n + (p : Int)) := Lib.hid (by omega)
          clear h0 hp0
          go_wp2_with fail
          refine (HRM.out _ HNP.out).mono ?_
        all_goals
          rintro e Y2 ⟨x, rfl, hx, hkb, hb2⟩
          obtain ⟨ox, cx, rfl, hrx⟩ := hx
          have HB2 := Lib.hid (Kit.step HB.out hb2)
          have hown2 := own_laterT HO.out hb2
          have hels2 := HELS.out.later hb2
          have hxe : RowV (Da.mk1 k (n + p) (bi bs p)) (.slice ox (Da.mk1 k (n + p) (bi bs p)).length cx) Y2 := ⟨ox, cx, rfl, hrx⟩
          obtain ⟨lx, hlx⟩ : ∃ lx, (Da.mk1 k (n + p) (bi bs p)).length = lx := ⟨_, rfl⟩
          rw [hlx] at hxe hkb ⊢
          obtain ⟨gh, hgh⟩ : ∃ gh, Y2.heap.size = gh := ⟨_, rfl⟩
          obtain ⟨Y3, hY3⟩ : ∃ Y3, Y2.alloc (.cells #[.slice ox lx cx] 22) = Y3 := ⟨_, rfl⟩
          have hb3 : Below Y2.heap.size Y2 Y3 := by rw [← hY3]; exact (Below.refl _ _).alloc (Nat.le_refl _) _
          have HH3 : Hid (RowIs Y3 (some ⟨gh, 0, none⟩) [.slice ox lx cx] 1) := Lib.hid (by rw [← hY3, ← hgh]; exact hdr_row Y2 _)
          have HO3 := Lib.hid (own_laterT hown2 hb3)
          have HEL3 := Lib.hid (hels2.later hb3)
          have HXE3 := Lib.hid (hxe.later hb3)
          have HKB3 := Lib.hid (fun base => (hkb base).later hb3)
          have HB3 := Lib.hid (Kit.step HB2.out hb3)
          have HY3 := Lib.hid hY3
          have HGH := Lib.hid hgh
          clear hb2 hkb hrx hown2 hels2 hxe hlx hb3 hY3 hgh HRM
          go_wp2_with (first | rw [HY3.out, HGH.out] | (at_builtin; refine append_rowsH rfl (.tmp 57) (.tmp 59) rfl w.heap.size _ p xs rfl HO3.out _ 1 1 [.slice ox lx cx] rfl rfl HH3.out (fun u hu => by rw [List.mem_singleton] at hu; subst hu; rfl) (by omega) HB3.out.size ?_))
          intro v4 Y4 hv4 hg4
          have HX1 : Hid (SxA k n bs w v4 (.int .i64 (q2 : Nat)) (.int .i64 ((p + 1 : Nat) : Int)) Y4) := Lib.hid (by
            have hlt2 : p < bs.length := by rw [HN.out]; exact hlt
            have hb4 := own_belowB HB3.out HO3.out hg4
            refine ⟨p + 1, q2, p + 1, _, hlt2, rfl, rfl, Nat.le_refl _, hv4, hb4, ?_⟩
            have hd := Da.mbs_drop n bs p hlt2
            rw [HQ2.out] at hd
            by_cases h : q2 = 0
            · left
              subst h
              obtain ⟨h8, hrb⟩ := Da.mb_zero HQ2.out
              have hrg := Da.rb_zero hrb
              have hm8 : Da.mk1 k (n + p) (bi bs p) = Da.mk8 k (n + p) (bi bs p) := by unfold Da.mk1; rw [if_pos HQ2.out]
              refine ⟨rfl, by rw [HM1.out, hd, if_pos rfl], fun _ => by rcases Nat.eq_zero_or_pos p with h | h; (subst h; omega); (have := HR.out h; omega), rfl, ?_⟩
              rw [Da.mkL_take k n bs p hlt2, ← hm8]
              have hxe3 := HXE3.out
              exact (HEL3.out.app (ElsB.one hxe3 (HKB3.out _))).grown HO3.out hg4
            · right
              exact ⟨h, by rw [HM1.out, hd, if_neg h]⟩)
          clear hv4 hg4
          go_wp2_with fail
          exact ⟨HX1.out, by simp [intOf]; omega⟩
      · rcases hst with ⟨h, _⟩ | ⟨_, hm1⟩
        · exact absurd h hq
        have hq1 : ((q : Int) != 0) = true := by rw [bne_iff_ne]; omega
        have HX1 : Hid (SxA k n bs w u7 (.int .i64 (q : Nat)) (.int .i64 ((p + 1 : Nat) : Int)) Y1) := Lib.hid ⟨p + 1, q, m, xs, by rw [HN.out]; exact hlt, rfl, rfl, by omega, HO.out, HB.out, .inr ⟨hq, hm1⟩⟩
        clear hm1
        go_wp2_with fail
        exact ⟨HX1.out, by simp [intOf]; omega⟩
    · obtain rfl : N = p := by omega
      have HB := Lib.hid hb
      have HO := Lib.hid hown
      have hqm : Da.mbs n bs = q := by
        rcases hst with ⟨rfl, hm1, _⟩ | ⟨_, hm1⟩
        · rw [hm1, List.drop_of_length_le (by rw [HN.out]; exact Nat.le_refl _)]; rfl
        · exact hm1
      have hqle : q ≤ 20 := by rw [← hqm]; exact Da.mbs_le n bs
      have MK := masks_any k o c n bs ob cb A Y1 (HK.out.later hb) (HBS.out.later hb) (HV.out.later hb) (HE.out.later hb).ten (by rw [HLK.out]; omega) (by rw [HN.out]; omega) hn1 hn2
      rw [HN.out, HLK.out, hqm] at MK
      have HMK := Lib.hid MK
      have HNQ : Hid (∀ v, Er.Errs v A → Calls Tryd.prog 13 #[errV A q] v fun e w' => e = .returned (.int .i64 (q : Int)) ∧ Below v.heap.size v w') := Lib.hid (fun v hv => Er.num_any A q hqle v hv)
      have HQM := Lib.hid hqm
      have HST := Lib.hid hst
      clear hb MK hown hst hqm HX0
      by_cases hq : q = 0
      · rcases HST.out with ⟨_, _, _, hmN, hels⟩ | ⟨h, _⟩
        case inr => exact absurd hq h
        subst hq
        have hW : RbV (Da.mkL k n bs) u7 Y1 := by
          rw [List.take_of_length_le (by rw [HN.out]; exact Nat.le_refl _)] at hels
          exact owns_rb HO.out (by rw [hmN, Da.mkL_length, HN.out]) hels.els
        obtain ⟨ow, cw, rfl, hrw⟩ := hW
        have hml : (Da.mkL k n bs).length = N := by rw [Da.mkL_length, HN.out]
        have hR : Da.mkR k n bs = Da.mkL k n bs := by unfold Da.mkR; rw [if_pos HQM.out]
        have HRW := Lib.hid hrw
        have HML := Lib.hid hml
        have HR := Lib.hid hR
        rw [hml]
        clear hmN hels hrw hml hR HST
        go_wp2_with fail
        refine HMK.out.mono ?_
        rintro e Y2 ⟨x, rfl, hx, hb2⟩
        rw [HR.out] at hx
        obtain ⟨ox, cx, rfl, hrx⟩ := hx
        have HRX := Lib.hid hrx
        have HB12 := Lib.hid hb2
        have HB2 := Lib.hid (Kit.step HB.out hb2)
        rw [HML.out]
        clear hrx hb2 HMK
        go_wp2_with fail
        refine (HNQ.out Y2 (HE.out.later HB2.out)).mono ?_
        rintro e Y3 ⟨rfl, hb3⟩
        have HB3 := Lib.hid (Kit.step HB2.out hb3)
        have SL := Lib.hid (same_lists (Da.mkL k n bs) ox ow N cx cw Y3 (HRX.out.later hb3) ((HRW.out.later HB12.out).later hb3) HML.out)
        clear hb3
        go_wp2_with fail
        refine SL.out.mono ?_
        rintro e Y4 ⟨rfl, hdn⟩
        have HB4 := Lib.hid (Kit.step HB3.out hdn.below)
        clear hdn SL
        go_wp2_with fail
        go_ret
        exact ⟨rfl, HB4.out⟩
      · have hq1 : ((q : Int) != 0) = true := by rw [bne_iff_ne]; omega
        have HR : Hid (Da.mkR k n bs = []) := Lib.hid (by unfold Da.mkR; rw [if_neg (by rw [HQM.out]; exact hq)])
        go_wp2_with fail
        refine HMK.out.mono ?_
        rintro e Y2 ⟨x, rfl, hx, hb2⟩
        rw [HR.out] at hx
        obtain ⟨ox, cx, rfl, hrx⟩ := hx
        have HRX := Lib.hid hrx
        have HB2 := Lib.hid (Kit.step HB.out hb2)
        clear hrx hb2 HMK
        go_wp2_with fail
        refine (HNQ.out Y2 (HE.out.later HB2.out)).mono ?_
        rintro e Y3 ⟨rfl, hb3⟩
        have HB3 := Lib.hid (Kit.step HB2.out hb3)
        have SL := Lib.hid (same_lists [] ox none 0 cx 0 Y3 (HRX.out.later hb3) (RbIs.empty none 0 (Nat.zero_le _) (fun _ => rfl)) rfl)
        clear hb3
        go_wp2_with fail
        refine SL.out.mono ?_
        rintro e Y4 ⟨rfl, hdn⟩
        have HB4 := Lib.hid (Kit.step HB3.out hdn.below)
        clear hdn SL
        go_wp2_with fail
        go_ret
        exact ⟨rfl, HB4.out⟩
end Go.Proofs.YtaanjlbkncfnbaaDoor
