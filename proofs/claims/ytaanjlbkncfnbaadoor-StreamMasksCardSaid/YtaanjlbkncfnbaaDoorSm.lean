/- The code's Masks and Mask. -/
import Derived.Test.YtaanjlbkncfnbaaDoorSk
import Derived.Test.YtaanjlbkncfnbaaDoorStq
namespace Go.Proofs.YtaanjlbkncfnbaaDoor
open Go.RowKit
set_option linter.unusedVariables false
set_option linter.unusedSimpArgs false
/-- what Masks answers beside its error -/
def Da.mkR (k : List UInt8) (n : Int) (bs : List (List UInt8)) : List (List UInt8) := if Da.mbs n bs = 0 then Da.mkL k n bs else []
theorem errV_succ (A : Nat → Addr) (b : Nat) (h : b ≠ 0) : ∃ a, errV A b = .iface 102 (.pointer (some a)) := ⟨_, by unfold errV; rw [if_neg h]⟩
theorem errV_nil (A : Nat → Addr) : errV A 0 = .nilIface := rfl
theorem neq_nil (v : World) : (binOp .neq 26 .nilIface .nilIface).run Tryd.prog v = .ok (.bool false) v := by kernel_rfl
/-- the first loop -/
def SmA (n : Int) (bs : List (List UInt8)) (w : World) (i : Value) (wr : World) : Prop :=
  ∃ p : Nat, p ≤ bs.length ∧ i = .int .i64 p ∧ Da.mbs n bs = Da.mbs (n + p) (bs.drop p) ∧ (0 < p → 0 ≤ n ∧ n + p ≤ 1099511627777) ∧ Below w.heap.size w wr
/-- what each operation has as its result -/
def SmG (k : List UInt8) (o : Option Addr) (c N : Nat) (ob : Option Addr) (cb base : Nat) (i : Nat) (x : Value) (v : World) : Prop :=
  match i with
  | 0 => x = .slice o k.length c
  | 1 => ∃ p, x = .agg #[.pointer (some ⟨p, 0, none⟩)] ∧ Arr v p 74 (bytesV (Da.fil k))
  | 2 => x = .slice ob N cb
  | 3 => x = .int .i64 N
  | 4 => ∃ g, x = .slice (some ⟨g, 0, none⟩) N N ∧ base ≤ g ∧ Arr v g 22 (List.replicate N (.slice none 0 0))
  | 5 => ∃ g, x = .pointer (some ⟨g, 0, none⟩) ∧ base ≤ g ∧ Arr v g 51 [.pointer none]
  | _ => True
theorem SmG.later {k : List UInt8} {o : Option Addr} {c N : Nat} {ob : Option Addr} {cb base : Nat} (i : Nat) (x : Value) (v v' : World) (h : SmG k o c N ob cb base i x v) (hb : Below v.heap.size v v') : SmG k o c N ob cb base i x v' := by
  unfold SmG at *
  split at h
  · exact h
  · obtain ⟨p, e, h⟩ := h
    exact ⟨p, e, h.later hb h.lt⟩
  · exact h
  · exact h
  · obtain ⟨p, e, h0, h⟩ := h
    exact ⟨p, e, h0, h.later hb h.lt⟩
  · obtain ⟨p, e, h0, h⟩ := h
    exact ⟨p, e, h0, h.later hb h.lt⟩
  · trivial
/-- the second loop -/
def SmB (k : List UInt8) (n : Int) (bs : List (List UInt8)) (N pk g4 g5 gR : Nat) (w : World) (room i : Value) (wr : World) : Prop :=
  ∃ (j : Nat) (ro : Option Addr) (Z : List UInt8), j ≤ N ∧ i = .int .i64 j ∧ room = .slice ro (8 * (N - j)) (8 * (N - j)) ∧ (j < N → ro = some ⟨gR, 8 * j, none⟩) ∧ Z.length = 8 * N ∧ (∀ q, q < j → (Z.drop (8 * q)).take 8 = Da.mk8 k (n + q) (bi bs q)) ∧
    Arr wr gR 5 (bytesV Z) ∧ Arr wr g4 22 (hdrs gR N j) ∧ Arr wr g5 51 [.pointer (some ⟨pk, 0, none⟩)] ∧ Arr wr pk 74 (bytesV (Da.fil k)) ∧ Below w.heap.size w wr
theorem sm_leaf (k : List UInt8) (o : Option Addr) (c : Nat) (n : Int) (N : Nat) (ob : Option Addr) (cb g4 g5 : Nat) (a : Act) (hs : a.tmps.size = 68) (hd : a.defers = []) (r0 : a.tmps.getD 0 undef = .slice o k.length c) (r1 : a.tmps.getD 1 undef = .int .i64 n) (r2 : a.tmps.getD 2 undef = .slice ob N cb) (r11 : a.tmps.getD 11 undef = .pointer (some ⟨g5, 0, none⟩)) (r12 : a.tmps.getD 12 undef = .slice (some ⟨g4, 0, none⟩) N N) :
    ∃ f : Nat → Value, a = { tmps := #[.slice o k.length c, .int .i64 n, .slice ob N cb, f 3, f 4, f 5, f 6, f 7, f 8, f 9, f 10, .pointer (some ⟨g5, 0, none⟩), .slice (some ⟨g4, 0, none⟩) N N, f 13, f 14, f 15, f 16, f 17, f 18, f 19, f 20, f 21, f 22, f 23, f 24, f 25, f 26, f 27, f 28, f 29, f 30, f 31, f 32, f 33, f 34, f 35, f 36, f 37, f 38, f 39, f 40, f 41, f 42, f 43, f 44, f 45, f 46, f 47, f 48, f 49, f 50, f 51, f 52, f 53, f 54, f 55, f 56, f 57, f 58, f 59, f 60, f 61, f 62, f 63, f 64, f 65, f 66, f 67], defers := [] } := by
  refine ⟨fun i => a.tmps.getD i undef, ?_⟩
  have e := Rg.litG a.tmps 68 hs
  obtain ⟨tm, df⟩ := a
  obtain rfl : df = [] := hd
  dsimp only at r0 r1 r2 r11 r12 e ⊢
  show ({ tmps := tm, defers := [] } : Act) = _
  congr 1
  refine e.trans ?_
  rw [← r0, ← r1, ← r2, ← r11, ← r12]
  rfl
theorem sm_end (k : List UInt8) (o : Option Addr) (c : Nat) (n : Int) (N : Nat) (ob : Option Addr) (cb p g4 g5 : Nat) (a : Act) (w v : World) (hs : a.tmps.size = 68) (hd : a.defers = []) (r0 : a.tmps.getD 0 undef = .slice o k.length c) (r1 : a.tmps.getD 1 undef = .int .i64 n) (r2 : a.tmps.getD 2 undef = .slice ob N cb) (r11 : a.tmps.getD 11 undef = .pointer (some ⟨g5, 0, none⟩)) (r12 : a.tmps.getD 12 undef = .slice (some ⟨g4, 0, none⟩) N N)
    (L4 : w.heap.size ≤ g4) (L5 : w.heap.size ≤ g5) (H1 : Arr v p 74 (bytesV (Da.fil k))) (H4 : Arr v g4 22 (List.replicate N (.slice none 0 0))) (H5 : Arr v g5 51 [.pointer (some ⟨p, 0, none⟩)]) (HB : Below w.heap.size w v) :
    (Exit.normal : Exit) = .normal ∧ ∃ (p g4 g5 : Nat) (f : Nat → Value), w.heap.size ≤ g4 ∧ w.heap.size ≤ g5 ∧ Arr v p 74 (bytesV (Da.fil k)) ∧ Arr v g4 22 (List.replicate N (.slice none 0 0)) ∧ Arr v g5 51 [.pointer (some ⟨p, 0, none⟩)] ∧ Below w.heap.size w v ∧ a = { tmps := #[.slice o k.length c, .int .i64 n, .slice ob N cb, f 3, f 4, f 5, f 6, f 7, f 8, f 9, f 10, .pointer (some ⟨g5, 0, none⟩), .slice (some ⟨g4, 0, none⟩) N N, f 13, f 14, f 15, f 16, f 17, f 18, f 19, f 20, f 21, f 22, f 23, f 24, f 25, f 26, f 27, f 28, f 29, f 30, f 31, f 32, f 33, f 34, f 35, f 36, f 37, f 38, f 39, f 40, f 41, f 42, f 43, f 44, f 45, f 46, f 47, f 48, f 49, f 50, f 51, f 52, f 53, f 54, f 55, f 56, f 57, f 58, f 59, f 60, f 61, f 62, f 63, f 64, f 65, f 66, f 67], defers := [] } := by
  obtain ⟨f, hf⟩ := sm_leaf k o c n N ob cb g4 g5 a hs hd r0 r1 r2 r11 r12
  exact ⟨rfl, p, g4, g5, f, L4, L5, H1, H4, H5, HB, hf⟩
set_option maxRecDepth 100000 in
set_option maxHeartbeats 4000000 in
theorem masks_any (k : List UInt8) (o : Option Addr) (c : Nat) (n : Int) (bs : List (List UInt8)) (ob : Option Addr) (cb : Nat) (A : Nat → Addr) (w : World) (hK : RowIs w o (bytesV k) c) (hB : RbIs w ob bs cb) (hV : Cds w) (hE : Er.E10 w A) (hl : k.length ≤ 900000) (hbl : bs.length ≤ 10000) (hn1 : -9223372036854775808 ≤ n) (hn2 : n ≤ 9223372036854775807) :
    Calls Tryd.prog 16 #[.slice o k.length c, .int .i64 n, .slice ob bs.length cb] w fun e w' => ∃ x, e = .returned (.tuple #[x, errV A (Da.mbs n bs)]) ∧ RbV (Da.mkR k n bs) x w' ∧ Below w.heap.size w w' := by
  have hmf := @makes Tryd.prog
  obtain ⟨i0, hi0, hz0, hz1, hz2⟩ := info_parts info_rowB
  obtain ⟨i1, hi1, hy0, hy1, hy2⟩ := info_parts info_u8
  have HK := Lib.hid hK
  have HBS := Lib.hid hB
  have HV := Lib.hid hV
  have HE := Lib.hid hE
  obtain ⟨N, hN⟩ : ∃ N, bs.length = N := ⟨_, rfl⟩
  have HN := Lib.hid hN
  rw [hN] at hbl ⊢
  clear hK hB hV hE hN
  go_enter Tryd.func16, Tryd.ntmps16
  go_wp2_with fail
  go_loopw [18] (fun i wr => SmA n bs w i wr) (fun i _ => N - (intOf i).toNat)
  case atStart => exact ⟨0, Nat.zero_le _, rfl, by simp, fun h => by omega, Below.refl _ _⟩
  case round =>
    obtain ⟨p, hp, rfl, hm, hr, hb⟩ := hrel
    rw [HN.out] at hp
    by_cases hlt : p < N
    · obtain ⟨bb, off, q, cq, rfl, _, hc, hrow⟩ := (HBS.out.later hb).cell p (by rw [HN.out]; exact hlt)
      have hwr : IntKind.i64.wrap (n + (p : Int)) = n + (p : Int) := by
        rw [IntKind.wrap_i64]
        rcases Nat.eq_zero_or_pos p with h | h
        · subst h; omega
        · have := hr h; omega
      have FL := Lib.hid (flt_any (n + p) (bi bs p) q cq A wr (HE.out.later hb))
      have HM := Lib.hid hm
      have HR := Lib.hid hr
      have HB := Lib.hid hb
      obtain ⟨L, hL⟩ : ∃ L, (bi bs p).length = L := ⟨_, rfl⟩
      have HL := Lib.hid hL
      rw [hL] at FL hc
      clear hm hr hb hrow hL
      go_wp2_with fail
      refine FL.out.mono ?_
      rintro e w1 ⟨rfl, hb1⟩
      by_cases h0 : Da.mb (bi bs p) (n + p) = 0
      · rw [h0, errV_nil]
        have HB1 := Lib.hid (Kit.step HB.out hb1)
        have hnn := neq_nil w1
        clear hb1 FL
        go_wp2_with fail
        refine ⟨⟨p + 1, by rw [HN.out]; omega, rfl, ?_, ?_, HB1.out⟩, by simp [intOf]; omega⟩
        · rw [HM.out, Da.mbs_drop n bs p (by rw [HN.out]; exact hlt), if_pos h0]
        · intro _
          obtain ⟨h1, h2⟩ := Da.mb_zero h0
          have := Da.rb_zero h2
          rcases Nat.eq_zero_or_pos p with h | h
          · subst h; omega
          · have := HR.out h; omega
      · obtain ⟨a1, ha1⟩ := errV_succ A _ h0
        have HB1 := Lib.hid (Kit.step HB.out hb1)
        have HME : Hid (Da.mbs n bs = Da.mb (bi bs p) (n + p)) := Lib.hid (by rw [HM.out, Da.mbs_drop n bs p (by rw [HN.out]; exact hlt), if_neg h0])
        have HA1 := Lib.hid ha1
        have H0 := Lib.hid h0
        rw [ha1]
        clear hb1 FL ha1 h0
        go_wp2_with fail
        refine bodyPost_ret (results_tmp2 rfl _ _ _) rfl ?_
        refine ⟨.slice none 0 0, by rw [HME.out, HA1.out]; rfl, ?_, HB1.out⟩
        unfold Da.mkR
        rw [HME.out, if_neg H0.out]
        exact ⟨none, 0, rfl, RbIs.empty _ _ (Nat.zero_le _) (fun _ => rfl)⟩
    · obtain rfl : N = p := by omega
      have HM : Hid (Da.mbs n bs = 0) := Lib.hid (by rw [hm, List.drop_of_length_le (by rw [HN.out]; exact Nat.le_refl _)]; rfl)
      have HR := Lib.hid hr
      have HB := Lib.hid hb
      clear hm hr hb hlt hp
      go_wp2_with fail
      refine Code.wp_mono (Q := fun e b' v => e = .normal ∧ ∃ (p g4 g5 : Nat) (f : Nat → Value), w.heap.size ≤ g4 ∧ w.heap.size ≤ g5 ∧ Arr v p 74 (bytesV (Da.fil k)) ∧ Arr v g4 22 (List.replicate N (.slice none 0 0)) ∧ Arr v g5 51 [.pointer (some ⟨p, 0, none⟩)] ∧ Below w.heap.size w v ∧ b' = { tmps := #[.slice o k.length c, .int .i64 n, .slice ob N cb, f 3, f 4, f 5, f 6, f 7, f 8, f 9, f 10, .pointer (some ⟨g5, 0, none⟩), .slice (some ⟨g4, 0, none⟩) N N, f 13, f 14, f 15, f 16, f 17, f 18, f 19, f 20, f 21, f 22, f 23, f 24, f 25, f 26, f 27, f 28, f 29, f 30, f 31, f 32, f 33, f 34, f 35, f 36, f 37, f 38, f 39, f 40, f 41, f 42, f 43, f 44, f 45, f 46, f 47, f 48, f 49, f 50, f 51, f 52, f 53, f 54, f 55, f 56, f 57, f 58, f 59, f 60, f 61, f 62, f 63, f 64, f 65, f 66, f 67], defers := [] }) ?rest ?reg
      case reg =>
        refine wp_region_any (by kernel_rfl) ?_
        obtain ⟨x0, hx0⟩ : ∃ y, wr.drew = y := ⟨_, rfl⟩
        have HB : Hid (Below w.heap.size w x0) := Lib.hid (by rw [← hx0]; exact HB.out.drew)
        change wpAny _ _ _ _ _ _ _ (World.drew _)
        rw [hx0]
        clear hx0
        refine wpAny_take (i := 0) (v := .slice o k.length c) rfl (by kernel_rfl) (by kernel_rfl) (by kernel_rfl) (fun _ _ _ h => by cases h.1) (Or.inl ⟨by rfl, fun w => by go_simp⟩) ?_
        refine wpAny_take (i := 2) (v := .slice ob N cb) rfl (by kernel_rfl) (by kernel_rfl) (by kernel_rfl) (fun _ _ _ h => by cases h.1) (Or.inl ⟨by rfl, fun w => by go_simp⟩) ?_
        refine wpAny_take (i := 3) (v := .int .i64 N) rfl (by kernel_rfl) (by kernel_rfl) (by kernel_rfl) (fun _ _ _ h => by cases h.1) (Or.inl ⟨by rfl, fun w => by go_simp⟩) ?_
        refine wpAny_ready (rs := [1, 4, 5]) (by kernel_rfl) (by simp) ?_
        refine AllReady.cons rfl (fun K hK => ?_) (AllReady.cons rfl (fun K hK => ?_) (AllReady.cons rfl (fun K hK => ?_) AllReady.nil))
        · -- 1 after []
          go_simp
          refine (sof10_any k o c x0 (HK.out.later HB.out) (HV.out.later HB.out) hl).mono ?_
          rintro e x1 ⟨p, rfl, h1, hbn⟩
          refine hK _ _ ?_
          clear hK K
          have HB := Lib.hid (Kit.step HB.out hbn)
          have H1 := Lib.hid h1
          clear h1 hbn
          refine wpAny_ready (rs := [4, 5]) (by kernel_rfl) (by simp) ?_
          refine AllReady.cons rfl (fun K hK => ?_) (AllReady.cons rfl (fun K hK => ?_) AllReady.nil)
          · -- 4 after [1]
            obtain ⟨x2, hrun, hown, hgrow⟩ := run_make_full (P := Tryd.prog) x1 w.heap.size 40 22 i0 (.slice none 0 0) 1 Tryd.underlying40 hi0 hz0 hz1 .i64 .i64 N (by rw [hz2]; omega) (by unfold maxLen; omega) HB.out.size
            have hbn : Below x1.heap.size x1 x2 := (Below.refl _ _).grown hgrow (Nat.le_refl _) (fun k h => by cases h)
            obtain ⟨g4, hg4⟩ : ∃ g4, x1.heap.size = g4 := ⟨_, rfl⟩
            rw [hg4] at hrun hown
            rw [made_rows] at hown
            have L4 : Hid (w.heap.size ≤ g4) := Lib.hid (arr_of_own hown).2
            clear hgrow hg4
            have H1 := Lib.hid (H1.out.later hbn H1.out.lt)
            have HB := Lib.hid (Kit.step HB.out hbn)
            have H4 := Lib.hid (arr_of_own hown).1
            clear hbn hown
            go_simp
            refine hK _ _ ?_
            clear hK K hrun
            refine wpAny_ready (rs := [5]) (by kernel_rfl) (by simp) ?_
            refine AllReady.cons rfl (fun K hK => ?_) AllReady.nil
            · -- 5 after [1, 4]
              obtain ⟨x3, hn⟩ : ∃ y, x2.alloc (.cells #[.pointer none] 51) = y := ⟨_, rfl⟩
              have hbn : Below x2.heap.size x2 x3 := by rw [← hn]; exact (Below.refl _ _).alloc (Nat.le_refl _) _
              obtain ⟨g5, hg5⟩ : ∃ g5, x2.heap.size = g5 := ⟨_, rfl⟩
              have L5 : Hid (w.heap.size ≤ g5) := Lib.hid (by rw [← hg5]; exact HB.out.size)
              have H5 : Hid (Arr x3 g5 51 [.pointer none]) := Lib.hid (by rw [← hn, ← hg5]; exact Arr.made _ _ _)
              have HN5 := Lib.hid hn
              have HG5 := Lib.hid hg5
              clear hn hg5
              have H1 := Lib.hid (H1.out.later hbn H1.out.lt)
              have H4 := Lib.hid (H4.out.later hbn H4.out.lt)
              have HB := Lib.hid (Kit.step HB.out hbn)
              clear hbn
              go_simp
              rw [HN5.out, HG5.out]
              refine hK _ _ ?_
              clear hK K HN5 HG5
              refine wpAny_ready (rs := [6]) (by kernel_rfl) (by simp) ?_
              refine AllReady.cons rfl (fun K hK => ?_) AllReady.nil
              · -- 6 after [1, 4, 5]
                rw [if_pos (by rfl)]
                refine wp_store_row 51 (.tmp 11) (.tmp 33) rfl g5 #[.pointer (some ⟨p, 0, none⟩)] rfl rfl 51 #[.pointer none] H5.out src_size rfl (src_one p) (hK _ _ ?_)
                clear hK K
                obtain ⟨x4, hn⟩ : ∃ y, x3.setRow g5 #[.pointer (some ⟨p, 0, none⟩)] = y := ⟨_, rfl⟩
                have H1 : Hid (Arr x4 p 74 (bytesV (Da.fil k))) := Lib.hid (by rw [← hn]; exact arr_setRow H1.out (arr_apart H1.out H5.out (by decide)) _)
                have H4 : Hid (Arr x4 g4 22 (List.replicate N (.slice none 0 0))) := Lib.hid (by rw [← hn]; exact arr_setRow H4.out (arr_apart H4.out H5.out (by decide)) _)
                have HB : Hid (Below w.heap.size w x4) := Lib.hid (by rw [← hn]; exact HB.out.trans (below_row L5.out))
                have H5 : Hid (Arr x4 g5 51 [.pointer (some ⟨p, 0, none⟩)]) := Lib.hid (by rw [← hn]; exact setRow_heap _ _ _ _ _ _ H5.out)
                rw [hn]
                clear hn
                refine wpAny_ready (rs := [7]) (by kernel_rfl) (by simp) ?_
                refine AllReady.cons rfl (fun K hK => ?_) AllReady.nil
                · -- 7 after [1, 4, 5, 6]
                  go_simp
                  refine hK _ _ ?_
                  clear hK K
                  refine wpAny_done (by kernel_rfl) ?_ _
                  exact sm_end k o c n N ob cb p g4 g5 _ w _ rfl rfl rfl rfl rfl rfl rfl L4.out L5.out H1.out H4.out H5.out HB.out
          · -- 5 after [1]
            obtain ⟨x6, hn⟩ : ∃ y, x1.alloc (.cells #[.pointer none] 51) = y := ⟨_, rfl⟩
            have hbn : Below x1.heap.size x1 x6 := by rw [← hn]; exact (Below.refl _ _).alloc (Nat.le_refl _) _
            obtain ⟨g5, hg5⟩ : ∃ g5, x1.heap.size = g5 := ⟨_, rfl⟩
            have L5 : Hid (w.heap.size ≤ g5) := Lib.hid (by rw [← hg5]; exact HB.out.size)
            have H5 : Hid (Arr x6 g5 51 [.pointer none]) := Lib.hid (by rw [← hn, ← hg5]; exact Arr.made _ _ _)
            have HN5 := Lib.hid hn
            have HG5 := Lib.hid hg5
            clear hn hg5
            have H1 := Lib.hid (H1.out.later hbn H1.out.lt)
            have HB := Lib.hid (Kit.step HB.out hbn)
            clear hbn
            go_simp
            rw [HN5.out, HG5.out]
            refine hK _ _ ?_
            clear hK K HN5 HG5
            refine wpAny_ready (rs := [4, 6]) (by kernel_rfl) (by simp) ?_
            refine AllReady.cons rfl (fun K hK => ?_) (AllReady.cons rfl (fun K hK => ?_) AllReady.nil)
            · -- 4 after [1, 5]
              obtain ⟨x7, hrun, hown, hgrow⟩ := run_make_full (P := Tryd.prog) x6 w.heap.size 40 22 i0 (.slice none 0 0) 1 Tryd.underlying40 hi0 hz0 hz1 .i64 .i64 N (by rw [hz2]; omega) (by unfold maxLen; omega) HB.out.size
              have hbn : Below x6.heap.size x6 x7 := (Below.refl _ _).grown hgrow (Nat.le_refl _) (fun k h => by cases h)
              obtain ⟨g4, hg4⟩ : ∃ g4, x6.heap.size = g4 := ⟨_, rfl⟩
              rw [hg4] at hrun hown
              rw [made_rows] at hown
              have L4 : Hid (w.heap.size ≤ g4) := Lib.hid (arr_of_own hown).2
              clear hgrow hg4
              have H1 := Lib.hid (H1.out.later hbn H1.out.lt)
              have H5 := Lib.hid (H5.out.later hbn H5.out.lt)
              have HB := Lib.hid (Kit.step HB.out hbn)
              have H4 := Lib.hid (arr_of_own hown).1
              clear hbn hown
              go_simp
              refine hK _ _ ?_
              clear hK K hrun
              refine wpAny_ready (rs := [6]) (by kernel_rfl) (by simp) ?_
              refine AllReady.cons rfl (fun K hK => ?_) AllReady.nil
              · -- 6 after [1, 4, 5]
                rw [if_pos (by rfl)]
                refine wp_store_row 51 (.tmp 11) (.tmp 33) rfl g5 #[.pointer (some ⟨p, 0, none⟩)] rfl rfl 51 #[.pointer none] H5.out src_size rfl (src_one p) (hK _ _ ?_)
                clear hK K
                obtain ⟨x8, hn⟩ : ∃ y, x7.setRow g5 #[.pointer (some ⟨p, 0, none⟩)] = y := ⟨_, rfl⟩
                have H1 : Hid (Arr x8 p 74 (bytesV (Da.fil k))) := Lib.hid (by rw [← hn]; exact arr_setRow H1.out (arr_apart H1.out H5.out (by decide)) _)
                have H4 : Hid (Arr x8 g4 22 (List.replicate N (.slice none 0 0))) := Lib.hid (by rw [← hn]; exact arr_setRow H4.out (arr_apart H4.out H5.out (by decide)) _)
                have HB : Hid (Below w.heap.size w x8) := Lib.hid (by rw [← hn]; exact HB.out.trans (below_row L5.out))
                have H5 : Hid (Arr x8 g5 51 [.pointer (some ⟨p, 0, none⟩)]) := Lib.hid (by rw [← hn]; exact setRow_heap _ _ _ _ _ _ H5.out)
                rw [hn]
                clear hn
                refine wpAny_ready (rs := [7]) (by kernel_rfl) (by simp) ?_
                refine AllReady.cons rfl (fun K hK => ?_) AllReady.nil
                · -- 7 after [1, 4, 5, 6]
                  go_simp
                  refine hK _ _ ?_
                  clear hK K
                  refine wpAny_done (by kernel_rfl) ?_ _
                  exact sm_end k o c n N ob cb p g4 g5 _ w _ rfl rfl rfl rfl rfl rfl rfl L4.out L5.out H1.out H4.out H5.out HB.out
            · -- 6 after [1, 5]
              rw [if_pos (by rfl)]
              refine wp_store_row 51 (.tmp 11) (.tmp 33) rfl g5 #[.pointer (some ⟨p, 0, none⟩)] rfl rfl 51 #[.pointer none] H5.out src_size rfl (src_one p) (hK _ _ ?_)
              clear hK K
              obtain ⟨x10, hn⟩ : ∃ y, x6.setRow g5 #[.pointer (some ⟨p, 0, none⟩)] = y := ⟨_, rfl⟩
              have H1 : Hid (Arr x10 p 74 (bytesV (Da.fil k))) := Lib.hid (by rw [← hn]; exact arr_setRow H1.out (arr_apart H1.out H5.out (by decide)) _)
              have HB : Hid (Below w.heap.size w x10) := Lib.hid (by rw [← hn]; exact HB.out.trans (below_row L5.out))
              have H5 : Hid (Arr x10 g5 51 [.pointer (some ⟨p, 0, none⟩)]) := Lib.hid (by rw [← hn]; exact setRow_heap _ _ _ _ _ _ H5.out)
              rw [hn]
              clear hn
              refine wpAny_ready (rs := [4]) (by kernel_rfl) (by simp) ?_
              refine AllReady.cons rfl (fun K hK => ?_) AllReady.nil
              · -- 4 after [1, 5, 6]
                obtain ⟨x11, hrun, hown, hgrow⟩ := run_make_full (P := Tryd.prog) x10 w.heap.size 40 22 i0 (.slice none 0 0) 1 Tryd.underlying40 hi0 hz0 hz1 .i64 .i64 N (by rw [hz2]; omega) (by unfold maxLen; omega) HB.out.size
                have hbn : Below x10.heap.size x10 x11 := (Below.refl _ _).grown hgrow (Nat.le_refl _) (fun k h => by cases h)
                obtain ⟨g4, hg4⟩ : ∃ g4, x10.heap.size = g4 := ⟨_, rfl⟩
                rw [hg4] at hrun hown
                rw [made_rows] at hown
                have L4 : Hid (w.heap.size ≤ g4) := Lib.hid (arr_of_own hown).2
                clear hgrow hg4
                have H1 := Lib.hid (H1.out.later hbn H1.out.lt)
                have H5 := Lib.hid (H5.out.later hbn H5.out.lt)
                have HB := Lib.hid (Kit.step HB.out hbn)
                have H4 := Lib.hid (arr_of_own hown).1
                clear hbn hown
                go_simp
                refine hK _ _ ?_
                clear hK K hrun
                refine wpAny_ready (rs := [7]) (by kernel_rfl) (by simp) ?_
                refine AllReady.cons rfl (fun K hK => ?_) AllReady.nil
                · -- 7 after [1, 4, 5, 6]
                  go_simp
                  refine hK _ _ ?_
                  clear hK K
                  refine wpAny_done (by kernel_rfl) ?_ _
                  exact sm_end k o c n N ob cb p g4 g5 _ w _ rfl rfl rfl rfl rfl rfl rfl L4.out L5.out H1.out H4.out H5.out HB.out
        · -- 4 after []
          obtain ⟨x13, hrun, hown, hgrow⟩ := run_make_full (P := Tryd.prog) x0 w.heap.size 40 22 i0 (.slice none 0 0) 1 Tryd.underlying40 hi0 hz0 hz1 .i64 .i64 N (by rw [hz2]; omega) (by unfold maxLen; omega) HB.out.size
          have hbn : Below x0.heap.size x0 x13 := (Below.refl _ _).grown hgrow (Nat.le_refl _) (fun k h => by cases h)
          obtain ⟨g4, hg4⟩ : ∃ g4, x0.heap.size = g4 := ⟨_, rfl⟩
          rw [hg4] at hrun hown
          rw [made_rows] at hown
          have L4 : Hid (w.heap.size ≤ g4) := Lib.hid (arr_of_own hown).2
          clear hgrow hg4
          have HB := Lib.hid (Kit.step HB.out hbn)
          have H4 := Lib.hid (arr_of_own hown).1
          clear hbn hown
          go_simp
          refine hK _ _ ?_
          clear hK K hrun
          refine wpAny_ready (rs := [1, 5]) (by kernel_rfl) (by simp) ?_
          refine AllReady.cons rfl (fun K hK => ?_) (AllReady.cons rfl (fun K hK => ?_) AllReady.nil)
          · -- 1 after [4]
            go_simp
            refine (sof10_any k o c x13 (HK.out.later HB.out) (HV.out.later HB.out) hl).mono ?_
            rintro e x14 ⟨p, rfl, h1, hbn⟩
            refine hK _ _ ?_
            clear hK K
            have H4 := Lib.hid (H4.out.later hbn H4.out.lt)
            have HB := Lib.hid (Kit.step HB.out hbn)
            have H1 := Lib.hid h1
            clear h1 hbn
            refine wpAny_ready (rs := [5]) (by kernel_rfl) (by simp) ?_
            refine AllReady.cons rfl (fun K hK => ?_) AllReady.nil
            · -- 5 after [1, 4]
              obtain ⟨x15, hn⟩ : ∃ y, x14.alloc (.cells #[.pointer none] 51) = y := ⟨_, rfl⟩
              have hbn : Below x14.heap.size x14 x15 := by rw [← hn]; exact (Below.refl _ _).alloc (Nat.le_refl _) _
              obtain ⟨g5, hg5⟩ : ∃ g5, x14.heap.size = g5 := ⟨_, rfl⟩
              have L5 : Hid (w.heap.size ≤ g5) := Lib.hid (by rw [← hg5]; exact HB.out.size)
              have H5 : Hid (Arr x15 g5 51 [.pointer none]) := Lib.hid (by rw [← hn, ← hg5]; exact Arr.made _ _ _)
              have HN5 := Lib.hid hn
              have HG5 := Lib.hid hg5
              clear hn hg5
              have H1 := Lib.hid (H1.out.later hbn H1.out.lt)
              have H4 := Lib.hid (H4.out.later hbn H4.out.lt)
              have HB := Lib.hid (Kit.step HB.out hbn)
              clear hbn
              go_simp
              rw [HN5.out, HG5.out]
              refine hK _ _ ?_
              clear hK K HN5 HG5
              refine wpAny_ready (rs := [6]) (by kernel_rfl) (by simp) ?_
              refine AllReady.cons rfl (fun K hK => ?_) AllReady.nil
              · -- 6 after [1, 4, 5]
                rw [if_pos (by rfl)]
                refine wp_store_row 51 (.tmp 11) (.tmp 33) rfl g5 #[.pointer (some ⟨p, 0, none⟩)] rfl rfl 51 #[.pointer none] H5.out src_size rfl (src_one p) (hK _ _ ?_)
                clear hK K
                obtain ⟨x16, hn⟩ : ∃ y, x15.setRow g5 #[.pointer (some ⟨p, 0, none⟩)] = y := ⟨_, rfl⟩
                have H1 : Hid (Arr x16 p 74 (bytesV (Da.fil k))) := Lib.hid (by rw [← hn]; exact arr_setRow H1.out (arr_apart H1.out H5.out (by decide)) _)
                have H4 : Hid (Arr x16 g4 22 (List.replicate N (.slice none 0 0))) := Lib.hid (by rw [← hn]; exact arr_setRow H4.out (arr_apart H4.out H5.out (by decide)) _)
                have HB : Hid (Below w.heap.size w x16) := Lib.hid (by rw [← hn]; exact HB.out.trans (below_row L5.out))
                have H5 : Hid (Arr x16 g5 51 [.pointer (some ⟨p, 0, none⟩)]) := Lib.hid (by rw [← hn]; exact setRow_heap _ _ _ _ _ _ H5.out)
                rw [hn]
                clear hn
                refine wpAny_ready (rs := [7]) (by kernel_rfl) (by simp) ?_
                refine AllReady.cons rfl (fun K hK => ?_) AllReady.nil
                · -- 7 after [1, 4, 5, 6]
                  go_simp
                  refine hK _ _ ?_
                  clear hK K
                  refine wpAny_done (by kernel_rfl) ?_ _
                  exact sm_end k o c n N ob cb p g4 g5 _ w _ rfl rfl rfl rfl rfl rfl rfl L4.out L5.out H1.out H4.out H5.out HB.out
          · -- 5 after [4]
            obtain ⟨x18, hn⟩ : ∃ y, x13.alloc (.cells #[.pointer none] 51) = y := ⟨_, rfl⟩
            have hbn : Below x13.heap.size x13 x18 := by rw [← hn]; exact (Below.refl _ _).alloc (Nat.le_refl _) _
            obtain ⟨g5, hg5⟩ : ∃ g5, x13.heap.size = g5 := ⟨_, rfl⟩
            have L5 : Hid (w.heap.size ≤ g5) := Lib.hid (by rw [← hg5]; exact HB.out.size)
            have H5 : Hid (Arr x18 g5 51 [.pointer none]) := Lib.hid (by rw [← hn, ← hg5]; exact Arr.made _ _ _)
            have HN5 := Lib.hid hn
            have HG5 := Lib.hid hg5
            clear hn hg5
            have H4 := Lib.hid (H4.out.later hbn H4.out.lt)
            have HB := Lib.hid (Kit.step HB.out hbn)
            clear hbn
            go_simp
            rw [HN5.out, HG5.out]
            refine hK _ _ ?_
            clear hK K HN5 HG5
            refine wpAny_ready (rs := [1]) (by kernel_rfl) (by simp) ?_
            refine AllReady.cons rfl (fun K hK => ?_) AllReady.nil
            · -- 1 after [4, 5]
              go_simp
              refine (sof10_any k o c x18 (HK.out.later HB.out) (HV.out.later HB.out) hl).mono ?_
              rintro e x19 ⟨p, rfl, h1, hbn⟩
              refine hK _ _ ?_
              clear hK K
              have H4 := Lib.hid (H4.out.later hbn H4.out.lt)
              have H5 := Lib.hid (H5.out.later hbn H5.out.lt)
              have HB := Lib.hid (Kit.step HB.out hbn)
              have H1 := Lib.hid h1
              clear h1 hbn
              refine wpAny_ready (rs := [6]) (by kernel_rfl) (by simp) ?_
              refine AllReady.cons rfl (fun K hK => ?_) AllReady.nil
              · -- 6 after [1, 4, 5]
                rw [if_pos (by rfl)]
                refine wp_store_row 51 (.tmp 11) (.tmp 33) rfl g5 #[.pointer (some ⟨p, 0, none⟩)] rfl rfl 51 #[.pointer none] H5.out src_size rfl (src_one p) (hK _ _ ?_)
                clear hK K
                obtain ⟨x20, hn⟩ : ∃ y, x19.setRow g5 #[.pointer (some ⟨p, 0, none⟩)] = y := ⟨_, rfl⟩
                have H1 : Hid (Arr x20 p 74 (bytesV (Da.fil k))) := Lib.hid (by rw [← hn]; exact arr_setRow H1.out (arr_apart H1.out H5.out (by decide)) _)
                have H4 : Hid (Arr x20 g4 22 (List.replicate N (.slice none 0 0))) := Lib.hid (by rw [← hn]; exact arr_setRow H4.out (arr_apart H4.out H5.out (by decide)) _)
                have HB : Hid (Below w.heap.size w x20) := Lib.hid (by rw [← hn]; exact HB.out.trans (below_row L5.out))
                have H5 : Hid (Arr x20 g5 51 [.pointer (some ⟨p, 0, none⟩)]) := Lib.hid (by rw [← hn]; exact setRow_heap _ _ _ _ _ _ H5.out)
                rw [hn]
                clear hn
                refine wpAny_ready (rs := [7]) (by kernel_rfl) (by simp) ?_
                refine AllReady.cons rfl (fun K hK => ?_) AllReady.nil
                · -- 7 after [1, 4, 5, 6]
                  go_simp
                  refine hK _ _ ?_
                  clear hK K
                  refine wpAny_done (by kernel_rfl) ?_ _
                  exact sm_end k o c n N ob cb p g4 g5 _ w _ rfl rfl rfl rfl rfl rfl rfl L4.out L5.out H1.out H4.out H5.out HB.out
        · -- 5 after []
          obtain ⟨x22, hn⟩ : ∃ y, x0.alloc (.cells #[.pointer none] 51) = y := ⟨_, rfl⟩
          have hbn : Below x0.heap.size x0 x22 := by rw [← hn]; exact (Below.refl _ _).alloc (Nat.le_refl _) _
          obtain ⟨g5, hg5⟩ : ∃ g5, x0.heap.size = g5 := ⟨_, rfl⟩
          have L5 : Hid (w.heap.size ≤ g5) := Lib.hid (by rw [← hg5]; exact HB.out.size)
          have H5 : Hid (Arr x22 g5 51 [.pointer none]) := Lib.hid (by rw [← hn, ← hg5]; exact Arr.made _ _ _)
          have HN5 := Lib.hid hn
          have HG5 := Lib.hid hg5
          clear hn hg5
          have HB := Lib.hid (Kit.step HB.out hbn)
          clear hbn
          go_simp
          rw [HN5.out, HG5.out]
          refine hK _ _ ?_
          clear hK K HN5 HG5
          refine wpAny_ready (rs := [1, 4]) (by kernel_rfl) (by simp) ?_
          refine AllReady.cons rfl (fun K hK => ?_) (AllReady.cons rfl (fun K hK => ?_) AllReady.nil)
          · -- 1 after [5]
            go_simp
            refine (sof10_any k o c x22 (HK.out.later HB.out) (HV.out.later HB.out) hl).mono ?_
            rintro e x23 ⟨p, rfl, h1, hbn⟩
            refine hK _ _ ?_
            clear hK K
            have H5 := Lib.hid (H5.out.later hbn H5.out.lt)
            have HB := Lib.hid (Kit.step HB.out hbn)
            have H1 := Lib.hid h1
            clear h1 hbn
            refine wpAny_ready (rs := [4, 6]) (by kernel_rfl) (by simp) ?_
            refine AllReady.cons rfl (fun K hK => ?_) (AllReady.cons rfl (fun K hK => ?_) AllReady.nil)
            · -- 4 after [1, 5]
              obtain ⟨x24, hrun, hown, hgrow⟩ := run_make_full (P := Tryd.prog) x23 w.heap.size 40 22 i0 (.slice none 0 0) 1 Tryd.underlying40 hi0 hz0 hz1 .i64 .i64 N (by rw [hz2]; omega) (by unfold maxLen; omega) HB.out.size
              have hbn : Below x23.heap.size x23 x24 := (Below.refl _ _).grown hgrow (Nat.le_refl _) (fun k h => by cases h)
              obtain ⟨g4, hg4⟩ : ∃ g4, x23.heap.size = g4 := ⟨_, rfl⟩
              rw [hg4] at hrun hown
              rw [made_rows] at hown
              have L4 : Hid (w.heap.size ≤ g4) := Lib.hid (arr_of_own hown).2
              clear hgrow hg4
              have H1 := Lib.hid (H1.out.later hbn H1.out.lt)
              have H5 := Lib.hid (H5.out.later hbn H5.out.lt)
              have HB := Lib.hid (Kit.step HB.out hbn)
              have H4 := Lib.hid (arr_of_own hown).1
              clear hbn hown
              go_simp
              refine hK _ _ ?_
              clear hK K hrun
              refine wpAny_ready (rs := [6]) (by kernel_rfl) (by simp) ?_
              refine AllReady.cons rfl (fun K hK => ?_) AllReady.nil
              · -- 6 after [1, 4, 5]
                rw [if_pos (by rfl)]
                refine wp_store_row 51 (.tmp 11) (.tmp 33) rfl g5 #[.pointer (some ⟨p, 0, none⟩)] rfl rfl 51 #[.pointer none] H5.out src_size rfl (src_one p) (hK _ _ ?_)
                clear hK K
                obtain ⟨x25, hn⟩ : ∃ y, x24.setRow g5 #[.pointer (some ⟨p, 0, none⟩)] = y := ⟨_, rfl⟩
                have H1 : Hid (Arr x25 p 74 (bytesV (Da.fil k))) := Lib.hid (by rw [← hn]; exact arr_setRow H1.out (arr_apart H1.out H5.out (by decide)) _)
                have H4 : Hid (Arr x25 g4 22 (List.replicate N (.slice none 0 0))) := Lib.hid (by rw [← hn]; exact arr_setRow H4.out (arr_apart H4.out H5.out (by decide)) _)
                have HB : Hid (Below w.heap.size w x25) := Lib.hid (by rw [← hn]; exact HB.out.trans (below_row L5.out))
                have H5 : Hid (Arr x25 g5 51 [.pointer (some ⟨p, 0, none⟩)]) := Lib.hid (by rw [← hn]; exact setRow_heap _ _ _ _ _ _ H5.out)
                rw [hn]
                clear hn
                refine wpAny_ready (rs := [7]) (by kernel_rfl) (by simp) ?_
                refine AllReady.cons rfl (fun K hK => ?_) AllReady.nil
                · -- 7 after [1, 4, 5, 6]
                  go_simp
                  refine hK _ _ ?_
                  clear hK K
                  refine wpAny_done (by kernel_rfl) ?_ _
                  exact sm_end k o c n N ob cb p g4 g5 _ w _ rfl rfl rfl rfl rfl rfl rfl L4.out L5.out H1.out H4.out H5.out HB.out
            · -- 6 after [1, 5]
              rw [if_pos (by rfl)]
              refine wp_store_row 51 (.tmp 11) (.tmp 33) rfl g5 #[.pointer (some ⟨p, 0, none⟩)] rfl rfl 51 #[.pointer none] H5.out src_size rfl (src_one p) (hK _ _ ?_)
              clear hK K
              obtain ⟨x27, hn⟩ : ∃ y, x23.setRow g5 #[.pointer (some ⟨p, 0, none⟩)] = y := ⟨_, rfl⟩
              have H1 : Hid (Arr x27 p 74 (bytesV (Da.fil k))) := Lib.hid (by rw [← hn]; exact arr_setRow H1.out (arr_apart H1.out H5.out (by decide)) _)
              have HB : Hid (Below w.heap.size w x27) := Lib.hid (by rw [← hn]; exact HB.out.trans (below_row L5.out))
              have H5 : Hid (Arr x27 g5 51 [.pointer (some ⟨p, 0, none⟩)]) := Lib.hid (by rw [← hn]; exact setRow_heap _ _ _ _ _ _ H5.out)
              rw [hn]
              clear hn
              refine wpAny_ready (rs := [4]) (by kernel_rfl) (by simp) ?_
              refine AllReady.cons rfl (fun K hK => ?_) AllReady.nil
              · -- 4 after [1, 5, 6]
                obtain ⟨x28, hrun, hown, hgrow⟩ := run_make_full (P := Tryd.prog) x27 w.heap.size 40 22 i0 (.slice none 0 0) 1 Tryd.underlying40 hi0 hz0 hz1 .i64 .i64 N (by rw [hz2]; omega) (by unfold maxLen; omega) HB.out.size
                have hbn : Below x27.heap.size x27 x28 := (Below.refl _ _).grown hgrow (Nat.le_refl _) (fun k h => by cases h)
                obtain ⟨g4, hg4⟩ : ∃ g4, x27.heap.size = g4 := ⟨_, rfl⟩
                rw [hg4] at hrun hown
                rw [made_rows] at hown
                have L4 : Hid (w.heap.size ≤ g4) := Lib.hid (arr_of_own hown).2
                clear hgrow hg4
                have H1 := Lib.hid (H1.out.later hbn H1.out.lt)
                have H5 := Lib.hid (H5.out.later hbn H5.out.lt)
                have HB := Lib.hid (Kit.step HB.out hbn)
                have H4 := Lib.hid (arr_of_own hown).1
                clear hbn hown
                go_simp
                refine hK _ _ ?_
                clear hK K hrun
                refine wpAny_ready (rs := [7]) (by kernel_rfl) (by simp) ?_
                refine AllReady.cons rfl (fun K hK => ?_) AllReady.nil
                · -- 7 after [1, 4, 5, 6]
                  go_simp
                  refine hK _ _ ?_
                  clear hK K
                  refine wpAny_done (by kernel_rfl) ?_ _
                  exact sm_end k o c n N ob cb p g4 g5 _ w _ rfl rfl rfl rfl rfl rfl rfl L4.out L5.out H1.out H4.out H5.out HB.out
          · -- 4 after [5]
            obtain ⟨x30, hrun, hown, hgrow⟩ := run_make_full (P := Tryd.prog) x22 w.heap.size 40 22 i0 (.slice none 0 0) 1 Tryd.underlying40 hi0 hz0 hz1 .i64 .i64 N (by rw [hz2]; omega) (by unfold maxLen; omega) HB.out.size
            have hbn : Below x22.heap.size x22 x30 := (Below.refl _ _).grown hgrow (Nat.le_refl _) (fun k h => by cases h)
            obtain ⟨g4, hg4⟩ : ∃ g4, x22.heap.size = g4 := ⟨_, rfl⟩
            rw [hg4] at hrun hown
            rw [made_rows] at hown
            have L4 : Hid (w.heap.size ≤ g4) := Lib.hid (arr_of_own hown).2
            clear hgrow hg4
            have H5 := Lib.hid (H5.out.later hbn H5.out.lt)
            have HB := Lib.hid (Kit.step HB.out hbn)
            have H4 := Lib.hid (arr_of_own hown).1
            clear hbn hown
            go_simp
            refine hK _ _ ?_
            clear hK K hrun
            refine wpAny_ready (rs := [1]) (by kernel_rfl) (by simp) ?_
            refine AllReady.cons rfl (fun K hK => ?_) AllReady.nil
            · -- 1 after [4, 5]
              go_simp
              refine (sof10_any k o c x30 (HK.out.later HB.out) (HV.out.later HB.out) hl).mono ?_
              rintro e x31 ⟨p, rfl, h1, hbn⟩
              refine hK _ _ ?_
              clear hK K
              have H4 := Lib.hid (H4.out.later hbn H4.out.lt)
              have H5 := Lib.hid (H5.out.later hbn H5.out.lt)
              have HB := Lib.hid (Kit.step HB.out hbn)
              have H1 := Lib.hid h1
              clear h1 hbn
              refine wpAny_ready (rs := [6]) (by kernel_rfl) (by simp) ?_
              refine AllReady.cons rfl (fun K hK => ?_) AllReady.nil
              · -- 6 after [1, 4, 5]
                rw [if_pos (by rfl)]
                refine wp_store_row 51 (.tmp 11) (.tmp 33) rfl g5 #[.pointer (some ⟨p, 0, none⟩)] rfl rfl 51 #[.pointer none] H5.out src_size rfl (src_one p) (hK _ _ ?_)
                clear hK K
                obtain ⟨x32, hn⟩ : ∃ y, x31.setRow g5 #[.pointer (some ⟨p, 0, none⟩)] = y := ⟨_, rfl⟩
                have H1 : Hid (Arr x32 p 74 (bytesV (Da.fil k))) := Lib.hid (by rw [← hn]; exact arr_setRow H1.out (arr_apart H1.out H5.out (by decide)) _)
                have H4 : Hid (Arr x32 g4 22 (List.replicate N (.slice none 0 0))) := Lib.hid (by rw [← hn]; exact arr_setRow H4.out (arr_apart H4.out H5.out (by decide)) _)
                have HB : Hid (Below w.heap.size w x32) := Lib.hid (by rw [← hn]; exact HB.out.trans (below_row L5.out))
                have H5 : Hid (Arr x32 g5 51 [.pointer (some ⟨p, 0, none⟩)]) := Lib.hid (by rw [← hn]; exact setRow_heap _ _ _ _ _ _ H5.out)
                rw [hn]
                clear hn
                refine wpAny_ready (rs := [7]) (by kernel_rfl) (by simp) ?_
                refine AllReady.cons rfl (fun K hK => ?_) AllReady.nil
                · -- 7 after [1, 4, 5, 6]
                  go_simp
                  refine hK _ _ ?_
                  clear hK K
                  refine wpAny_done (by kernel_rfl) ?_ _
                  exact sm_end k o c n N ob cb p g4 g5 _ w _ rfl rfl rfl rfl rfl rfl rfl L4.out L5.out H1.out H4.out H5.out HB.out
      case rest =>
        rintro e a W ⟨rfl, p, g4, g5, f, h4, h5, hk, hm, hs, hb, rfl⟩
        rename_i K0 hK0
        show K0 _ _
        refine hK0 _ _ ?_
        clear hK0 K0
        have H4 := Lib.hid h4
        have H5 := Lib.hid h5
        have HKY := Lib.hid hk
        have HMA := Lib.hid hm
        have HSO := Lib.hid hs
        have HB := Lib.hid hb
        have hw8 : IntKind.i64.wrap ((N : Int) * 8) = ((N * 8 : Nat) : Int) := by rw [IntKind.wrap_i64]; omega
        clear h4 h5 hk hm hs hb
        go_wp2_with (at_make; refine wpList_make_full _ rfl _ _ 22 rfl w.heap.size 5 i1 (.int .u8 0) 1 Tryd.underlying22 hi1 hy0 hy1 .i64 .i64 _ _ (N * 8) rfl rfl (by omega) (by omega) (by rw [hy2]; omega) (by unfold maxLen; omega) HB.out.size ?_)
        intro W1 hown hgrow
        have hb1 : Below W.heap.size W W1 := (Below.refl _ _).grown hgrow (Nat.le_refl _) (fun k h => by cases h)
        obtain ⟨gR, hgR⟩ : ∃ gR, W.heap.size = gR := ⟨_, rfl⟩
        rw [hgR] at hown
        have hA1 := (arr_of_own hown).1
        have hle := (arr_of_own hown).2
        rw [made_bytes] at hA1
        have HX0 : Hid (SmB k n bs N p g4 g5 gR w (.slice (some ⟨gR, 0, none⟩) (N * 8) (N * 8)) (.int .i64 0) W1) := Lib.hid ⟨0, _, List.replicate (N * 8) 0, Nat.zero_le _, rfl, by rw [Nat.sub_zero, Nat.mul_comm], fun _ => rfl, by simp; omega, fun q h => by omega, hA1, by rw [hdrs_zero]; exact HMA.out.later hb1 HMA.out.lt, HSO.out.later hb1 HSO.out.lt, HKY.out.later hb1 HKY.out.lt, Kit.step HB.out hb1⟩
        have HGR := Lib.hid hgR
        have HLE := Lib.hid hle
        clear hb1 hgR hown hgrow hA1 hle
        go_wp2_with (first | rw [HGR.out])
        go_loopw [13, 43] (fun r i wr => SmB k n bs N p g4 g5 gR w r i wr) (fun _ i _ => N - (intOf i).toNat)
        case atStart => exact HX0.out
        case round =>
          obtain ⟨j, ro, Z, hj, rfl, rfl, hro, hZ, hq, hAR, hA4, hA5, hAk, hb⟩ := hrel
          by_cases hlt : j < N
          · obtain rfl := hro hlt
            have hmb := Da.mbs_all n bs HM.out j (by rw [HN.out]; exact hlt)
            obtain ⟨hb8, hrb⟩ := Da.mb_zero hmb
            have hrg := Da.rb_zero hrb
            have hwr : IntKind.i64.wrap (n + (j : Int)) = n + (j : Int) := by rw [IntKind.wrap_i64]; omega
            obtain ⟨bb, off, q, cq, rfl, hblt, hc, hrow⟩ := HBS.out.cell j (by rw [HN.out]; exact hlt)
            have hc := hb.cell hblt |>.trans hc
            have hnq := hrow.apart HLE.out (by simp [hb8])
            rw [hb8] at hc
            have h4c : wr.cell? ⟨g4, j, none⟩ = some (.slice none 0 0) := by rw [hA4.cell, hdrs_at _ _ _ _ hlt, if_neg (by omega)]
            have h4f := hA4.frozen j
            have HZ := Lib.hid hZ
            have HQ := Lib.hid hq
            have HAR := Lib.hid hAR
            have HA4 := Lib.hid hA4
            have HA5 := Lib.hid hA5
            have HAK := Lib.hid hAk
            have HBW := Lib.hid hb
            have HROW := Lib.hid hrow
            have HNQ := Lib.hid hnq
            have HRG := Lib.hid hrg
            have HB8 := Lib.hid hb8
            obtain ⟨L, hL⟩ : ∃ L, 8 * (N - j) = L := ⟨_, rfl⟩
            have hL8 : 8 ≤ L := by omega
            have HL := Lib.hid hL
            rw [hL]
            clear hZ hq hAR hA4 hA5 hAk hb hrow hnq hro hmb hrb hrg hb8 HX0 hL
            have HNC := HNQ
            by_cases hL9 : L = 8
            case' pos =>
              subst hL9
              go_wp2_with fail
              go_region
              obtain ⟨room, hroom, HRM⟩ : ∃ r : Value, r = .slice (some ⟨gR, 8 * j, none⟩) 0 0 ∧ Hid (∃ ro, r = .slice ro (8 * (N - (j + 1))) (8 * (N - (j + 1))) ∧ (j + 1 < N → ro = some ⟨gR, 8 * (j + 1), none⟩)) := ⟨_, rfl, Lib.hid ⟨_, by have := HL.out; rw [show 8 * (N - (j + 1)) = 0 by omega], fun h => by have := HL.out; omega⟩⟩
              rw [← hroom]
            case' neg =>
              go_wp2_with fail
              go_region
              obtain ⟨room, hroom, HRM⟩ : ∃ r : Value, r = .slice (some ⟨gR, 8 * j + 8, none⟩) (L - 8) (L - 8) ∧ Hid (∃ ro, r = .slice ro (8 * (N - (j + 1))) (8 * (N - (j + 1))) ∧ (j + 1 < N → ro = some ⟨gR, 8 * (j + 1), none⟩)) := ⟨_, rfl, Lib.hid ⟨some ⟨gR, 8 * j + 8, none⟩, by have := HL.out; rw [show 8 * (N - (j + 1)) = L - 8 by omega], fun h => by rw [Nat.mul_add]⟩⟩
              rw [← hroom]
            all_goals
              clear hroom
              obtain ⟨W2, hW2⟩ : ∃ W2, (wr.setCell ⟨g4, j, none⟩ (.slice (some ⟨gR, 8 * j, none⟩) 8 8)).drew = W2 := ⟨_, rfl⟩
              have a4 : Arr W2 g4 22 (hdrs gR N (j + 1)) := by rw [← hW2, ← hdrs_step]; exact (HA4.out.set j _).drew
              have aR : Arr W2 gR 5 (bytesV Z) := by rw [← hW2]; exact (HAR.out.ne HA4.out (arr_apart HAR.out HA4.out (by decide)) j _).drew
              have a5 : Arr W2 g5 51 [.pointer (some ⟨p, 0, none⟩)] := by rw [← hW2]; exact (HA5.out.ne HA4.out (arr_apart HA5.out HA4.out (by decide)) j _).drew
              have ak : Arr W2 p 74 (bytesV (Da.fil k)) := by rw [← hW2]; exact (HAK.out.ne HA4.out (arr_apart HAK.out HA4.out (by decide)) j _).drew
              have hb2 : Below w.heap.size w W2 := by rw [← hW2]; exact (HA4.out.below HBW.out H4.out j _).drew
              rw [hW2]
              have HB4 := Lib.hid a4
              have HBR := Lib.hid aR
              have HBS5 := Lib.hid a5
              have HBK := Lib.hid ak
              have HBB := Lib.hid hb2
              clear hW2 a4 aR a5 ak hb2 h4c h4f
              go_wp2_with fail
              have hS0 : (W2.drew).cell? ⟨g4, j, none⟩ = some (.slice (some ⟨gR, 8 * j, none⟩) 8 8) ∧ (W2.drew).rangeAt g5 0 [.pointer (some ⟨p, 0, none⟩)] := ⟨by show W2.cell? _ = _; rw [HB4.out.cell, hdrs_at _ _ _ _ hlt, if_pos (by omega)], (HBS5.out.drew).range 0 _ (fun i v h => by rw [Nat.zero_add]; exact h)⟩
              refine wp_region_held (S := fun v => v.cell? ⟨g4, j, none⟩ = some (.slice (some ⟨gR, 8 * j, none⟩) 8 8) ∧ v.rangeAt g5 0 [.pointer (some ⟨p, 0, none⟩)]) (by kernel_rfl) ?_
              refine wpAnyH_take (i := 0) (v := .slice (some ⟨g4, 0, none⟩) N N) rfl (by kernel_rfl) (by kernel_rfl) (by kernel_rfl) (fun _ _ _ h => h) (Or.inl ⟨by rfl, fun v hS => by go_simp⟩) hS0 ?_
              refine wpAnyH_take (i := 1) (v := .int .i64 j) rfl (by kernel_rfl) (by kernel_rfl) (by kernel_rfl) (fun _ _ _ h => h) (Or.inl ⟨by rfl, fun v hS => by go_simp⟩) hS0 ?_
              refine wpAnyH_take (i := 4) (v := .slice q 8 cq) rfl (by kernel_rfl) (by kernel_rfl) (by kernel_rfl) (fun _ _ _ h => h) (Or.inl ⟨by rfl, fun v hS => by go_simp⟩) hS0 ?_
              refine wpAnyH_take (i := 6) (v := .int .i64 n) rfl (by kernel_rfl) (by kernel_rfl) (by kernel_rfl) (fun _ _ _ h => h) (Or.inl ⟨by rfl, fun v hS => by go_simp⟩) hS0 ?_
              refine wpAnyH_take (i := 7) (v := .int .i64 j) rfl (by kernel_rfl) (by kernel_rfl) (by kernel_rfl) (fun _ _ _ h => h) (Or.inl ⟨by rfl, fun v hS => by go_simp⟩) hS0 ?_
              refine wpAnyH_take (i := 8) (v := .int .i64 (n + j)) rfl (by kernel_rfl) (by kernel_rfl) (by kernel_rfl) (fun _ _ _ h => h) (Or.inl ⟨by rfl, fun v hS => by go_simp⟩) hS0 ?_
              refine wpAnyH_take (i := 2) (v := .pointer (some ⟨g4, j, none⟩)) rfl (by kernel_rfl) (by kernel_rfl) (by kernel_rfl) (fun _ _ _ h => h) (Or.inl ⟨by rfl, fun v hS => by go_simp⟩) hS0 ?_
              refine wpAnyH_take (i := 3) (v := .slice (some ⟨gR, 8 * j, none⟩) 8 8) rfl (by kernel_rfl) (by kernel_rfl) (by kernel_rfl) (fun _ _ _ h => h) (Or.inl ⟨by rfl, fun v hS => by have hc := hS.1; go_simp⟩) hS0 ?_
              refine wpAnyH_take (i := 5) (v := .agg #[.pointer (some ⟨p, 0, none⟩)]) rfl (by kernel_rfl) (by kernel_rfl) (by kernel_rfl) (fun _ _ _ h => h) (Or.inl ⟨by rfl, fun v hS => St.exec_load (x := .tmp 11) (ty := 51) rfl (by go_simp) [.pointer (some ⟨p, 0, none⟩)] _ hS.2 Tryd.underlying51 rfl src_size⟩) hS0 ?_
              have hbd : Below W2.heap.size W2 W2.drew := Kit.dn' W2 1
              refine wpAnyH_all (rs := [9]) (by kernel_rfl) (by simp) (fun i hi => ?_)
              obtain rfl : i = 9 := by simpa using hi
              refine Rg.op_fn (R := fun x v => ∃ g, x = .slice (some ⟨g, 0, none⟩) 8 8 ∧ W2.drew.heap.size ≤ g ∧ RowIs v (some ⟨g, 0, none⟩) (bytesV (Da.sb k (n + j))) 8 ∧ Below W2.drew.heap.size W2.drew v) rfl rfl rfl (enters_of Tryd.func21 (by kernel_rfl) rfl) (args := #[.agg #[.pointer (some ⟨p, 0, none⟩)], .int .i64 (n + j)]) (by go_simp)
                ((sblk_any k (n + j) p W2.drew HBK.out.drew ((HV.out.later HBB.out).later hbd)).mono (fun e v' ⟨g, he, h1, h2, h3⟩ => ⟨_, he, g, rfl, h1, h2, h3⟩)) ?_
              rintro x W3 ⟨gB, rfl, hgB, hrB, hb3⟩
              have hb3 : Below W2.heap.size W2 W3 := Kit.step hbd hb3
              have hgB : W2.heap.size ≤ gB := hgB
              have a4 := HB4.out.later hb3 HB4.out.lt
              have aR := HBR.out.later hb3 HBR.out.lt
              have a5 := HBS5.out.later hb3 HBS5.out.lt
              have ak := HBK.out.later hb3 HBK.out.lt
              have hBB := HBB.out.trans (hb3.mono HBB.out.size)
              refine ⟨⟨by rw [a4.cell, hdrs_at _ _ _ _ hlt, if_pos (by omega)], a5.range 0 _ (fun i v h => by rw [Nat.zero_add]; exact h)⟩, ?_⟩
              refine wpAnyH_all (rs := [10]) (by kernel_rfl) (by simp) (fun i hi => ?_)
              obtain rfl : i = 10 := by simpa using hi
              have LY := lay10_any Z (bi bs j) (Da.sb k (n + j)) gR (8 * j) q (some ⟨gB, 0, none⟩) cq 8 W3 (by have := HZ.out; omega) (by have := HZ.out; omega) aR (HROW.out.later hBB) hrB HB8.out (Da.sb_length _ _) HNC.out (fun ad e => by cases e; have := HBR.out.lt; show gB ≠ gR; omega)
              refine Rg.op_fn (R := fun x v => Arr v gR 5 (bytesV (Da.putL Z (8 * j) (Da.mk8 k (n + j) (bi bs j)))) ∧ W3.grownBy v (some gR)) rfl rfl rfl (enters_of Tryd.func27 (by kernel_rfl) rfl) (args := #[.slice (some ⟨gR, 8 * j, none⟩) 8 8, .slice q 8 cq, .slice (some ⟨gB, 0, none⟩) 8 8]) (by go_simp)
                (LY.mono (fun e v' ⟨he, h1, h2⟩ => ⟨_, he, h1, h2⟩)) ?_
              rintro x W4 ⟨cR, hg4⟩
              have c4 := a4.kept hg4 (fun e => arr_apart a4 aR (by decide) (Option.some.inj e))
              have c5 := a5.kept hg4 (fun e => arr_apart a5 aR (by decide) (Option.some.inj e))
              have ck := ak.kept hg4 (fun e => arr_apart ak aR (by decide) (Option.some.inj e))
              have hB4 := below_grown hBB hg4 HLE.out hBB.size
              refine ⟨⟨by rw [c4.cell, hdrs_at _ _ _ _ hlt, if_pos (by omega)], c5.range 0 _ (fun i v h => by rw [Nat.zero_add]; exact h)⟩, ?_⟩
              refine wpAnyH_done (by kernel_rfl) ?_ _
              obtain ⟨ro, hro, hr2⟩ := HRM.out
              have hm8 := Da.mk8_length (k := k) (n := n + j) HB8.out
              have HX1 : Hid (SmB k n bs N p g4 g5 gR w room (.int .i64 ((j + 1 : Nat) : Int)) W4) := Lib.hid ⟨j + 1, ro, _, by omega, rfl, hro, hr2, by rw [Da.putL_length _ _ _ (by rw [hm8]; have := HZ.out; omega)]; exact HZ.out, fun t ht => by
                by_cases e : t = j
                · subst e
                  have := Da.putL_at Z (8 * t) (Da.mk8 k (n + t) (bi bs t)) (by rw [hm8]; have := HZ.out; omega)
                  rwa [hm8] at this
                · rw [Da.putL_ahead _ _ _ _ _ (by rw [hm8]; have := HZ.out; omega) (by omega)]
                  exact HQ.out t (by omega), cR, c4, c5, ck, hB4⟩
              clear c4 c5 ck hB4 a4 a5 ak aR hBB hb3 hgB hrB hg4 cR LY hm8 hro hr2 hS0 hbd
              go_wp2_with fail
              exact ⟨HX1.out, by simp [intOf]; omega⟩
          · obtain rfl : N = j := by omega
            have HBW := Lib.hid hb
            have hRB : RbV (Da.mkR k n bs) (.slice (some ⟨g4, 0, none⟩) N N) wr := by
              unfold Da.mkR
              rw [if_pos HM.out]
              have hml : (Da.mkL k n bs).length = N := by rw [Da.mkL_length, HN.out]
              refine ⟨_, N, by rw [hml], hdrs gR N N, ⟨by rw [hdrs_length]; exact Nat.le_refl _, by unfold maxLen; omega, fun h => (by cases h), fun h => ⟨g4, 0, rfl, hA4.lt, fun i v hv => by rw [Nat.zero_add, hA4.cell]; exact hv⟩⟩, ⟨by rw [hdrs_length, hml], fun i x hx => ?_⟩⟩
              have hi : i < N := by have := (List.getElem?_eq_some_iff.1 hx).1; rwa [hdrs_length] at this
              rw [hdrs_at _ _ _ _ hi, if_pos hi] at hx
              obtain rfl := Option.some.inj hx
              obtain ⟨hb8, _⟩ := Da.mb_zero (Da.mbs_all n bs HM.out i (by rw [HN.out]; exact hi))
              rw [Da.mkL_at k n bs i (by rw [HN.out]; exact hi)]
              have hm8 := Da.mk8_length (k := k) (n := n + i) hb8
              refine ⟨_, 8, by rw [hm8], ?_⟩
              have hr := (hAR.row (by unfold maxLen; omega)).part (8 * i) 8 (by rw [bytesV_length]; omega) 8 (Nat.le_refl _) (by unfold maxLen; decide)
              rw [Nat.zero_add] at hr
              rw [← hq i hi]
              simpa [bytesV, List.map_take, List.map_drop] using hr
            have HRB := Lib.hid hRB
            clear hq hAR hA4 hA5 hAk hb hRB HX0 hro hZ
            go_wp2_with fail
            refine bodyPost_ret (results_tmp2 rfl _ _ _) rfl ?_
            exact ⟨_, by rw [HM.out]; rfl, HRB.out, HBW.out⟩
end Go.Proofs.YtaanjlbkncfnbaaDoor
