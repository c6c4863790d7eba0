/- The code's group of blocks, mended. -/
import Derived.Test.YtgifbpjmblemhaaGreatDoorMn
namespace Go.Proofs.YtgifbpjmblemhaaGreatDoor
open Go.RowKit
set_option linter.unusedVariables false
set_option linter.unusedSimpArgs false
/-- what Fix answers to a column -/
def FyTo (W : List UInt8) (n : Nat) (z : List Int) (A : Nat → Addr) (w : World) (e : Ending) (w' : World) : Prop :=
  Below w.heap.size w w' ∧ (((∀ v H, ¬ Chg v W n z H) ∧ ∃ a, e = fx_v A a) ∨
    ∃ (v : List UInt8) (H : List Nat) (x1 : Value) (o2 : Option Addr) (d c2 L : Nat), Chg v W n z H ∧ e = .returned (.tuple #[.agg #[x1, .slice o2 d c2, .int .i64 (L : Int)], .nilIface]) ∧ RowV v x1 w')
theorem fix_grp (W : List UInt8) (G : List (List UInt8)) (n c cz : Nat) (o oz : Option Addr) (w : World) (A : Nat → Addr) (hE : Er.Six w A) (hW : RowIs w o (bytesV W) c) (hZ : RowIs w oz (intsV (gnL G n)) cz) (hn : W.length = n) (h33 : 33 ≤ n) (h255 : n ≤ 255) :
    Calls Tryz.prog 24 #[.slice o n c, .slice oz (gnL G n).length cz] w (FyTo W n (gnL G n) A w) := by
  by_cases h32 : (gnL G n).length ≤ 32
  · refine (cfix_any W (gnL G n) n c cz o oz w A hW hZ hn h33 h255 (gnL_eok G n h32) (fun _ => hE) _ rfl _ rfl).mono fun e w' h => ?_
    obtain ⟨hb, ⟨h1, h2⟩ | ⟨v, H, x1, x2, h1, h2, h3, o2, c2, rfl, _⟩⟩ := h
    · exact ⟨hb, .inl ⟨h1, 16, h2⟩⟩
    · exact ⟨hb, .inr ⟨v, H, x1, o2, _, c2, _, h1, h2, h3⟩⟩
  · have hgl := gnL_length G n
    rcases er_code n (gnL G n) A h33 h255 (by omega) with ⟨a, ha⟩ | hok
    · exact (cfix_bad W (gnL G n) n c cz a o oz w A hW hZ hn h33 h255 hE ha _ rfl _ rfl).mono fun e w' ⟨h1, h2⟩ => ⟨h2, .inl ⟨fun v H hc => h32 (by have := hc.few; omega), a, h1⟩⟩
    · exact absurd hok.2.2 h32
def GnlAt (G : List (List UInt8)) (n : Nat) (w : World) (v iv : Value) (wr : World) : Prop :=
  ∃ k : Nat, k ≤ n ∧ iv = .int .i64 k ∧ wr.ownsRow w.heap.size 3 1 v (gnL G k).length (intsV (gnL G k)) ∧ Below w.heap.size w wr
def mM (vs : Nat → List UInt8) (k : Nat) (i j : Nat) : UInt8 := if j < k then co (vs j) i else 0
theorem mM_step (vs us : Nat → List UInt8) (v : List UInt8) (k n i b : Nat) (hi : i < n) (hu : us = fun j => if j = k then v else vs j) : layM (mM vs k) v k n i b = mM us (k + 1) i b := by
  subst hu
  unfold layM mM
  by_cases h : b = k
  · subst h
    rw [if_pos ⟨rfl, hi⟩, if_pos (by omega)]
    simp
  · rw [if_neg (fun g => h g.1)]
    by_cases h2 : b < k
    · rw [if_pos h2, if_pos (by omega)]
      simp [h]
    · rw [if_neg h2, if_neg (by omega)]
def MeiAt (G : List (List UInt8)) (n gO : Nat) (Gb : Nat → Nat) (w : World) (iv : Value) (wr : World) : Prop :=
  ∃ (k : Nat) (vs : Nat → List UInt8), k ≤ 8 ∧ iv = .int .i64 k ∧ (∀ j, j < k → ∃ H, Chg (vs j) (colB G j) n (gnL G n) H) ∧ Mat8 wr w.heap.size gO n Gb (mM vs k) ∧ Below w.heap.size w wr
def MdTo (G : List (List UInt8)) (n : Nat) (u : TypeId) (v : Value) (w : World) (e : Ending) (w' : World) : Prop :=
  Below w.heap.size w w' ∧ (((∀ vs, ¬ Mnd G n vs) ∧ e = .returned (.tuple #[.slice none 0 0, .iface u v])) ∨
    ∃ (vs : Nat → List UInt8) (gO B : Nat) (Gb : Nat → Nat), Mnd G n vs ∧ e = .returned (.tuple #[.slice (some ⟨gO, 0, none⟩) n n, .nilIface]) ∧ Mat8 w' B gO n Gb (mM vs 8))
theorem md_rb {W : World} {B gO n : Nat} {Gb : Nat → Nat} {vs : Nat → List UInt8} (h : Mat8 W B gO n Gb (mM vs 8)) : RbIs W (some ⟨gO, 0, none⟩) ((List.range n).map (mbk vs)) n := h.els _ (by simp) fun i hi => by
  rw [bi_map _ _ _ hi]
  refine list_ext (by simp [mbk]) fun b hb => ?_
  have hb : b < 8 := by simpa [mbk] using hb
  unfold mbk
  rw [co_tab _ _ _ hb, co_tab _ _ _ hb]
  unfold mM
  rw [if_pos hb]
set_option maxRecDepth 100000 in
set_option maxHeartbeats 4000000 in
theorem cmend_any (G : List (List UInt8)) (o : Option Addr) (n c : Nat) (w : World) (A : Nat → Addr) (hE : Er.Six w A) (hG : RbIs w o G c) (hn : G.length = n) (h33 : 33 ≤ n) (h255 : n ≤ 255) :
    Calls Tryz.prog 13 #[.slice o n c] w (MdTo G n 152 (.pointer (some (A 16))) w) := by
  have h1 := hG.le.1
  have h2 := hG.le.2
  rw [hn] at h1
  unfold maxLen at h2
  have HG := Lib.hid hG
  have HN := Lib.hid hn
  have HE := Lib.hid hE
  have HOWN : Hid (w.ownsRow w.heap.size 3 1 (.slice none 0 0) 0 (intsV [])) := Lib.hid (World.ownsRow_nil _ _ _ _)
  clear hG hn hE
  go_enter Tryz.func13, Tryz.ntmps13
  go_wp2_with fail
  go_loopw [4, 5, 6, 13] (fun v _ _ iv wr => GnlAt G n w v iv wr) (fun _ _ _ iv _ => n - (intOf iv).toNat)
  case atStart => exact ⟨0, Nat.zero_le _, rfl, HOWN.out, Below.refl _ _⟩
  case round =>
    obtain ⟨k, hk, rfl, hv, hb⟩ := hrel
    have HV := Lib.hid hv
    have HB := Lib.hid hb
    by_cases hlt : k < n
    · have hk0 : (0 : Int) ≤ (k : Int) := by omega
      have hk1 : (k : Int) < (n : Int) := by omega
      obtain ⟨b1, off1, p, q, rfl, _, hc1, hrow⟩ := (HG.out.later hb).cell k (by have := HN.out; omega)
      have hgl := gnL_length G k
      have hgs : gnL G (k + 1) = if (bi G k).length = 8 then gnL G k else gnL G k ++ [(k : Int)] := rfl
      have hq1 := hrow.le
      have hq2 := hrow.cap
      simp at hq1
      unfold maxLen at hq2
      by_cases h8 : (bi G k).length = 8
      · rw [if_pos h8] at hgs
        have HGS := Lib.hid hgs
        rw [h8] at hc1 hq1
        clear hv hb hrow hgs h8
        go_wp2_with fail
        refine (whole_yes _ _ _).mono ?_; rintro e w' ⟨rfl, rfl⟩
        go_wp2_with fail
        go_roundw
        case rel => exact ⟨k + 1, by omega, by go_num, by rw [HGS.out]; exact HV.out, HB.out⟩
        case measure => simp [intOf]; omega
      · rw [if_neg h8] at hgs
        have HGS := Lib.hid hgs
        obtain ⟨L, hL⟩ : ∃ L, (bi G k).length = L := ⟨_, rfl⟩
        rw [hL] at hc1 h8 hq1
        have HW := Lib.hid (whole_no p L q wr h8 (by omega))
        obtain ⟨w3, hw3⟩ : ∃ w3, wr.alloc (.cells #[.int .i64 (k : Int)] 3) = w3 := ⟨_, rfl⟩
        have HO3 : Hid (w3.ownsRow w.heap.size 3 1 _ (gnL G k).length (intsV (gnL G k))) := Lib.hid (by rw [← hw3]; exact World.ownsRow.alloc hv _)
        have HC3 : Hid (w3.cell? ⟨wr.heap.size, 0, none⟩ = some (.int .i64 (k : Int))) := Lib.hid (by rw [← hw3]; exact cell_new wr _ _ _ rfl)
        have HB3 : Hid (Below w.heap.size w w3) := Lib.hid (by rw [← hw3]; exact hb.alloc hb.size _)
        have HW3 := Lib.hid hw3
        have HGL := Lib.hid hgl
        clear hv hb hrow hgs h8 hL hw3 hgl
        go_wp2_with fail
        refine HW.out.mono ?_; rintro e w' ⟨rfl, rfl⟩
        go_wp2_with (first | rw [HW3.out] | (at_builtin; refine append_int rfl (.tmp 21) (.tmp 23) rfl w.heap.size _ (gnL G k).length (gnL G k) rfl HO3.out _ (k : Int) rfl HC3.out (by have := HGL.out; omega) HB3.out.size ?_))
        intro v' w4 hv hg
        have HV4 : Hid (w4.ownsRow w.heap.size 3 1 v' (gnL G (k + 1)).length (intsV (gnL G (k + 1)))) := Lib.hid (by rw [HGS.out, List.length_append]; exact hv)
        have HB4 := Lib.hid (own_belowI HB3.out HO3.out hg)
        clear hv hg
        go_wp2_with fail
        go_roundw
        case rel => exact ⟨k + 1, by omega, by go_num, HV4.out, HB4.out⟩
        case measure => simp [intOf]; omega
    · obtain rfl : k = n := by omega
      obtain ⟨oz, cz, rfl, hz⟩ := owns_ints hv rfl
      have HZ := Lib.hid hz
      have HBK := Lib.hid (blank_any k wr (by omega))
      clear hv hb hz
      go_wp2_with fail
      refine HBK.out.mono ?_; rintro e w1 ⟨gO, Gb, rfl, hm, hb⟩
      have HM0 : Hid (Mat8 w1 wr.heap.size gO k Gb (mM (fun _ => []) 0)) := Lib.hid (hm.congr fun i j _ _ => by unfold mM; rw [if_neg (by omega)])
      have HB1 := Lib.hid hb
      clear hm hb HBK
      go_wp2_with fail
      go_loopw [8, 9, 10, 29] (fun _ _ _ iv wr2 => MeiAt G k gO Gb wr iv wr2) (fun _ _ _ iv _ => 8 - (intOf iv).toNat)
      case atStart => exact ⟨0, _, Nat.zero_le _, rfl, fun j hj => absurd hj (by omega), HM0.out, HB1.out⟩
      case round =>
        rename World => W2
        obtain ⟨j, vs, hj, rfl, hvs, hm, hb2⟩ := hrel
        have HVS := Lib.hid hvs
        have HM := Lib.hid hm
        have HBW := Lib.hid hb2
        by_cases hj8 : j < 8
        · have hj0 : (0 : Int) ≤ (j : Int) := by omega
          have hj1 : (j : Int) < 8 := by omega
          have HB2 := Lib.hid (HB.out.trans (hb2.mono HB.out.size))
          have hcl := column_any G o k c (j : Int) W2 (HG.out.later HB2.out) HN.out (by omega) (by omega)
          rw [show ((j : Int) % 8).toNat = j by omega] at hcl
          have HCL := Lib.hid hcl
          clear hvs hm hcl hb2
          go_wp2_with fail
          refine HCL.out.mono ?_; rintro e w3 ⟨g, cap, rfl, hg, hbuf, hb⟩
          have hlen : (colB G j).length = k := by rw [colB_length, HN.out]
          have HB3 := Lib.hid (Kit.step HB2.out hb)
          have HBW3 := Lib.hid (Kit.step HBW.out hb)
          have hfx := fix_grp (colB G j) G k cap cz (some ⟨g, 0, none⟩) oz w3 A (HE.out.later HB3.out) hbuf.row (HZ.out.later HBW3.out) hlen h33 h255
          have HFX := Lib.hid hfx
          have HM3 := Lib.hid (HM.out.later hb)
          rw [hlen]
          clear hg hbuf hb hfx hlen HCL
          go_wp2_with fail
          refine HFX.out.mono ?_; rintro e w4 ⟨hb, ⟨hno, a, rfl⟩ | ⟨v, H, x1, o2, d, c2, L, hch, rfl, ⟨o1, c1, rfl, hr⟩⟩⟩
          · obtain ⟨w5, hw5⟩ : ∃ w5, w4.alloc (.cells #[.slice none 0 0, .slice none 0 0, .int .i64 0] 60) = w5 := ⟨_, rfl⟩
            have hb5 : Below w4.heap.size w4 w5 := by rw [← hw5]; exact below_new _ _
            have HB5 := Lib.hid (Kit.step (Kit.step HB3.out hb) hb5)
            have hc16 := (HE.out.later HB5.out).c16
            have HW5 := Lib.hid hw5
            have HNO : Hid (∀ vs, ¬ Mnd G k vs) := Lib.hid fun us hu => by
              obtain ⟨H, h⟩ := hu j hj8
              exact hno _ _ h
            unfold fx_v fxz
            clear hb hb5 hw5 hno
            go_wp2_with fail
            rw [HW5.out]
            go_quiet (fail)
            go_wp2
            go_ret2
            exact ⟨HB5.out.trans ⟨rfl, rfl, rfl, Nat.le_refl _, fun _ _ => rfl⟩, .inl ⟨HNO.out, rfl⟩⟩
          · have hvl := hch.lv
            rw [hvl]
            have hr1 := hr.le
            have hr2 := hr.cap
            rw [bytesV_length, hvl] at hr1
            unfold maxLen at hr2
            obtain ⟨w5, hw5⟩ : ∃ w5, w4.alloc (.cells #[.slice o1 k c1, .slice o2 d c2, .int .i64 (L : Int)] 60) = w5 := ⟨_, rfl⟩
            have hb5 : Below w4.heap.size w4 w5 := by rw [← hw5]; exact below_new _ _
            have hg5 : w5.heap[w4.heap.size]? = some (.cells #[.slice o1 k c1, .slice o2 d c2, .int .i64 (L : Int)] 60 (0, 0)) := by rw [← hw5]; exact World.alloc_heap_new _ _
            have hcc := (fx_cells hg5).1
            rw [← hw5] at hcc
            have hly := lay_any wr.heap.size gO k Gb (mM vs j) v j c1 o1 w5 ((HM3.out.later hb).later hb5) (hr.later hb5) hj8 (by omega) (by omega) (Kit.step (Kit.step HBW3.out hb) hb5).size
            rw [hvl] at hly
            have hvs' : ∀ b, b < j + 1 → ∃ H, Chg ((fun b => if b = j then v else vs b) b) (colB G b) k (gnL G k) H := fun b hb => by
              by_cases e : b = j
              · subst e
                exact ⟨H, by simpa using hch⟩
              · obtain ⟨H', h'⟩ := HVS.out b (by omega)
                exact ⟨H', by simpa [e] using h'⟩
            have HVS2 := Lib.hid hvs'
            have HST : Hid (∀ i b, i < k → layM (mM vs j) v j k i b = mM (fun b => if b = j then v else vs b) (j + 1) i b) := Lib.hid fun i b hi => mM_step vs _ v j k i b hi rfl
            have HLY := Lib.hid hly
            have HB5 := Lib.hid (Kit.step (Kit.step HBW3.out hb) hb5)
            have HW5 := Lib.hid hw5
            clear hb hb5 hw5 hg5 hch hvl hr hly hvs'
            go_wp2_with fail
            rw [HW5.out]
            refine HLY.out.mono ?_; rintro e w6 ⟨rfl, hm6, hb6⟩
            have HM6 : Hid (Mat8 w6 wr.heap.size gO k Gb (mM (fun b => if b = j then v else vs b) (j + 1))) := Lib.hid (hm6.congr fun i b hi _ => HST.out i b hi)
            have HB6 := Lib.hid (HB5.out.trans hb6)
            clear hm6 hb6 HLY hcc
            go_wp2_with fail
            go_roundw
            case rel => exact ⟨j + 1, _, by omega, by go_num, HVS2.out, HM6.out, HB6.out⟩
            case measure => simp [intOf]; omega
        · obtain rfl : j = 8 := by omega
          have HEND : Hid (Below w.heap.size w W2) := Lib.hid (HB.out.trans (hb2.mono HB.out.size))
          clear hvs hm hb2
          go_wp2_with fail
          go_ret2
          exact ⟨HEND.out, .inr ⟨vs, gO, _, Gb, HVS.out, rfl, HM.out⟩⟩
end Go.Proofs.YtgifbpjmblemhaaGreatDoor
