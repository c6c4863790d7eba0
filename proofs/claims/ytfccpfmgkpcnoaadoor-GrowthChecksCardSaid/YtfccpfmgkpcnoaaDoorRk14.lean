/- The document's Peaks of growth. -/
import Derived.Test.YtfccpfmgkpcnoaaDoorRx14
import Derived.Test.YtfccpfmgkpcnoaaDoorPb13
namespace Go.Proofs.YtfccpfmgkpcnoaaDoor
open Go.RowKit
set_option linter.unusedVariables false
set_option linter.unusedSimpArgs false
theorem Da.pks_step {l : List (List UInt8)} {j : Nat} (h1 : 2 ^ j ≤ l.length) (h2 : l.length < 2 * 2 ^ j) : Da.pks l = Da.ov (l.take (2 ^ j)) :: Da.pks (l.drop (2 ^ j)) := by
  have hp := Nat.two_pow_pos j
  have e : l.length.log2 = j := by
    rw [Nat.log2_eq_iff (by omega), Nat.pow_succ]
    omega
  rw [Da.pks, dif_neg (by omega), e]
def Da.lenOf (v : Value) : Nat := match v with
  | .slice _ l _ => l
  | _ => 0
def PkI (ds : List (List UInt8)) (w : World) (v0 v3 : Value) (wr : World) : Prop := ∃ (rest dn : List (List UInt8)) (o' : Option Addr) (c' : Nat), v0 = .slice o' rest.length c' ∧ DgIs w o' rest c' ∧ Da.pks ds = dn ++ Da.pks rest ∧
  wr.ownsRow w.heap.size 40 32 v3 dn.length (bytesV dn.flatten) ∧ Da.all32 dn ∧ dn.length + rest.length ≤ ds.length ∧ Below w.heap.size w wr
def PkJ (r : Nat) (wk : World) (iv : Value) (wr : World) : Prop := ∃ j : Nat, iv = .int .i64 ((2 ^ j : Nat) : Int) ∧ 2 ^ j ≤ r ∧ wr = wk
set_option maxRecDepth 100000 in
set_option maxHeartbeats 4000000 in
theorem rpeaks_any14 (ds : List (List UInt8)) (o : Option Addr) (n c : Nat) (hn : ds.length = n) (h5 : n ≤ 1000) (w : World) (hR : DgIs w o ds c) (hV : Rds w) :
    Calls Tryd.prog 18 #[.slice o n c] w fun e w' => ∃ o' c', e = .returned (.slice o' (Da.pks ds).length c') ∧ DgIs w' o' (Da.pks ds) c' ∧ Below w.heap.size w w' := by
  obtain ⟨W1, hW1⟩ : ∃ W1, w.alloc (.cells #[] 40) = W1 := ⟨_, rfl⟩
  have hb1 : Below w.heap.size w W1 := by rw [← hW1]; exact new12 _ _
  have hown : W1.ownsRow w.heap.size 40 32 (.slice (some ⟨w.heap.size, 0, none⟩) 0 0) 0 [] := own_empty (by rw [← hW1]; exact World.alloc_heap_new w _) (Nat.le_refl _)
  have HI : Hid (PkI ds w (.slice o n c) (.slice (some ⟨w.heap.size, 0, none⟩) 0 0) W1) := Lib.hid ⟨ds, [], o, c, by rw [hn], hR, rfl, hown, Da.all32.nil, by simp, hb1⟩
  have HV := Lib.hid hV
  have HN := Lib.hid hn
  have HW1 := Lib.hid hW1
  clear hb1 hown hW1 hR hV hn
  go_enter Tryd.func18, Tryd.ntmps18
  go_upto_region 2 with fail
  rw [HW1.out]
  go_loopw [0, 3] (fun v0 v3 wr => PkI ds w v0 v3 wr) (fun v0 _ _ => Da.lenOf v0)
  case atStart => exact HI.out
  case round =>
    obtain ⟨rest, dn, o', c', rfl, hD, hpk, hown, hall, hle, hB⟩ := hrel
    rw [HN.out] at hle
    obtain ⟨r, hr⟩ : ∃ r, rest.length = r := ⟨_, rfl⟩
    rw [hr] at hle ⊢
    have hcl := hD.le
    have hca := hD.cap
    rw [hr] at hcl
    unfold maxLen at hca
    have HD := Lib.hid hD
    have HPK := Lib.hid hpk
    have HOWN := Lib.hid hown
    have HALL := Lib.hid hall
    have HB := Lib.hid hB
    have HRL := Lib.hid hr
    clear hD hpk hown hall hB hr HI HW1
    by_cases h0 : 0 < r
    · have hd1 : decide ((r : Int) > 0) = true := decide_eq_true (by omega)
      have hd2 : decide (0 < r) = true := decide_eq_true h0
      have hd3 : decide (0 < (r : Int)) = true := decide_eq_true (by omega)
      go_wp2_with fail
      -- STOP1
      go_loopw [4] (fun iv ww => PkJ r wr iv ww) (fun iv _ => r - (intOf iv).toNat)
      case atStart => exact ⟨0, rfl, by rw [Nat.pow_zero]; exact h0, rfl⟩
      case round =>
        obtain ⟨j, rfl, hj, rfl⟩ := hrel
        have hp := Nat.two_pow_pos j
        have hst := Da.pks_step (l := rest) (j := j)
        have hs2 : 2 ^ (j + 1) = 2 * 2 ^ j := by rw [Nat.pow_succ]; omega
        obtain ⟨K, hK⟩ : ∃ K, 2 ^ j = K := ⟨_, rfl⟩
        rw [hK] at hp hst hj hs2 ⊢
        have hw2 : IntKind.i64.wrap (2 * (K : Int)) = ((2 * K : Nat) : Int) := by rw [IntKind.wrap_i64]; omega
        have HS2 := Lib.hid hs2
        clear hK hs2
        by_cases h2 : 2 * K ≤ r
        · have hd4 : decide (2 * (K : Int) ≤ (r : Int)) = true := decide_eq_true (by omega)
          have hd5 : decide (((2 * K : Nat) : Int) ≤ (r : Int)) = true := decide_eq_true (by omega)
          have hd6 : decide (2 * K ≤ r) = true := decide_eq_true h2
          have HST := Lib.hid hst
          clear hst
          go_wp2_with fail
          -- STOP2
          go_roundw
          case rel => exact ⟨j + 1, by rw [HS2.out]; first | rfl | exact congrArg _ hw2 | simp, by rw [HS2.out]; exact h2, rfl⟩
          case measure => simp [intOf]; omega
        · have hd4 : decide (2 * (K : Int) ≤ (r : Int)) = false := decide_eq_false (by omega)
          have hd5 : decide (((2 * K : Nat) : Int) ≤ (r : Int)) = false := decide_eq_false (by omega)
          have hd6 : decide (2 * K ≤ r) = false := decide_eq_false h2
          have HST := Lib.hid (hst (by have := HRL.out; omega) (by have := HRL.out; omega))
          clear hst
          -- STOP3
          have HV1 := HV.out.later HB.out
          have hRR := HD.out.later HB.out
          have hR0 := HD.out
          obtain ⟨b1, off1, rfl, hlt1, _⟩ := hRR.at_ 0 (by have := HRL.out; omega)
          have hLk := hRR.part 0 K (by have := HRL.out; omega) c' (by omega) (by unfold maxLen; omega)
          rw [Nat.zero_mul, Nat.add_zero, List.drop_zero] at hLk
          have hRk := fun (hne : K < c') => hR0.part K (r - K) (by have := HRL.out; omega) (c' - K) (by omega) (by unfold maxLen; omega)
          rw [List.take_of_length_le (l := rest.drop K) (by rw [List.length_drop, HRL.out]; exact Nat.le_refl _)] at hRk
          have hll : (rest.take K).length = K := by rw [List.length_take, HRL.out]; omega
          have OV := rover_any (rest.take K) _ K c' hll wr hLk HV1 (by omega)
          have hel := Da.ov_length (l := rest.take K) (hRR.all.take K)
          obtain ⟨e, he⟩ : ∃ e, Da.ov (rest.take K) = e := ⟨_, rfl⟩
          rw [he] at OV hel
          have HPK2 : Hid (Da.pks ds = (dn ++ [e]) ++ Da.pks (rest.drop K)) := Lib.hid (by rw [HPK.out, HST.out, he]; simp)
          obtain ⟨E, hE⟩ : ∃ E, (bytesV e).toArray = E := ⟨_, rfl⟩
          rw [hE] at OV
          have HES := Lib.hid (show E.size = 32 by rw [← hE]; simp [hel])
          have HE := Lib.hid hE
          have HEL := Lib.hid hel
          have HOV := Lib.hid OV
          have HRK := Lib.hid hRk
          have hkc : K ≤ c' := by omega
          have hkr : K ≤ r := hj
          have HH2 := Lib.hid h2
          obtain ⟨dl, hdl⟩ : ∃ dl, dn.length = dl := ⟨_, rfl⟩
          have HDL := Lib.hid hdl
          rw [hdl] at hle
          clear OV hel he hE hRk hLk hll hRR hR0 hlt1 HV1 hdl h2
          go_upto_region 6 with fail
          apply wp_region_lit
          (refine wpList_plain rfl (fun K hK => ?_); go_simp; refine hK _ _ ?_; clear hK K)
          (refine wpList_plain rfl (fun K hK => ?_); go_simp; refine hK _ _ ?_; clear hK K)
          (refine wpList_plain rfl (fun K hK => ?_); go_simp; refine hK _ _ ?_; clear hK K)
          (refine wpList_plain rfl (fun K hK => ?_); go_simp; refine hK _ _ ?_; clear hK K)
          (refine wpList_plain rfl (fun K hK => ?_); go_simp)
          refine HOV.out.mono ?_
          rintro e2 W2 ⟨rfl, hb2⟩
          refine hK _ _ ?_
          clear hK K HOV
          have hbs := dg_slice_run (tS := 35) Tryd.underlying35 dgI_doc E HES.out W2
          have hba := new12 W2 (.cells E 40)
          have hrow : (W2.alloc (.cells E 40)).rangeAt W2.heap.size 0 (bytesV e) := by rw [← HE.out]; exact (Arr.made W2 40 (bytesV e)).rng
          have hb3 := Kit.step hb2 hba
          have hbw := Kit.step HB.out hb3
          obtain ⟨g2, cap2, W3, hrun, hown3, hgr3, hat⟩ := dg_append_run (tS := 35) Tryd.underlying35 dgI_doc 35 _ w.heap.size u3 dn.length _ (own_later12 HOWN.out hb3) W2.heap.size e HEL.out hrow (by rw [HDL.out]; omega) hbw.size
          have hbw3 : Below w.heap.size w W3 := Below.grown hbw hgr3 hbw.size (fun k e => (own_blk (own_later12 HOWN.out hb3) k e).1)
          rw [← bytesV_app] at hown3
          have HRUN := Lib.hid hrun
          have HBS := Lib.hid hbs
          have HO3 := Lib.hid hown3
          have HB3 := Lib.hid hbw3
          clear hb2 hbs hba hrow hb3 hbw hrun hown3 hgr3 hat hbw3
          refine wpList_plain rfl (fun K hK => oper_slice 35 1 _ rfl #[(0, .agg E)] (by first | rfl | simp [Act.eval, Act.put]) _ _ HBS.out (hK _ _ ?_))
          clear hK K
          refine wpList_plain rfl (fun K hK => oper_append (.tmp 16) (.tmp 21) 35 rfl _ _ rfl rfl _ _ HRUN.out (hK _ _ ?_))
          clear hK K
          have HALL2 : Hid (Da.all32 (dn ++ [e])) := Lib.hid (HALL.out.app (.one HEL.out))
          have HO4 : Hid (W3.ownsRow w.heap.size 40 32 (.slice (some ⟨g2, 0, none⟩) (dn.length + 1) cap2) (dn ++ [e]).length (bytesV (dn ++ [e]).flatten)) := Lib.hid (by
            have := HO3.out
            rw [List.length_append, List.length_singleton]
            simpa using this)
          have hdlr : (rest.drop K).length = r - K := by rw [List.length_drop, HRL.out]
          have HDLR := Lib.hid hdlr
          have HLN : Hid ((dn ++ [e]).length + (rest.drop K).length ≤ ds.length) := Lib.hid (by rw [List.length_append, List.length_singleton, hdlr, HDL.out, HN.out]; omega)
          have HPOS := Lib.hid hp
          clear hdlr
          by_cases hck : c' = K
          · have hrk : r = K := by omega
            subst hck
            subst hrk
            have hnil : rest.drop r = [] := List.eq_nil_of_length_eq_zero (by rw [HDLR.out]; omega)
            have HNIL := Lib.hid hnil
            clear hnil
            go_wp2_with fail
            -- STOP4
            go_roundw
            case rel => exact ⟨rest.drop r, dn ++ [e], _, 0, by rw [HNIL.out]; rfl, by rw [HNIL.out]; exact ⟨Nat.le_refl _, by unfold maxLen; omega, fun _ => rfl, Da.all32.nil, fun h => absurd h (Nat.lt_irrefl 0)⟩, HPK2.out, HO4.out, HALL2.out, HLN.out, HB3.out⟩
            case measure => simp [Da.lenOf]; omega
          · go_wp2_with fail
            -- STOP5
            go_roundw
            case rel => exact ⟨rest.drop K, dn ++ [e], some ⟨b1, off1 + K * 32, none⟩, c' - K, by rw [HDLR.out], HRK.out (by omega), HPK2.out, HO4.out, HALL2.out, HLN.out, HB3.out⟩
            case measure => simp [Da.lenOf]; omega
    · obtain rfl : r = 0 := by omega
      have hd1 : decide (((0 : Nat) : Int) > 0) = false := by decide
      have hre : rest = [] := List.eq_nil_of_length_eq_zero HRL.out
      have hpk := HPK.out
      rw [hre, Da.pks_nil, List.append_nil] at hpk
      obtain ⟨hnn, o3, c3, rfl, hdg⟩ := own_dg HOWN.out HALL.out
      rw [← hpk] at hdg ⊢
      have HDG := Lib.hid hdg
      obtain ⟨L, hL⟩ : ∃ L, (Da.pks ds).length = L := ⟨_, rfl⟩
      have HLL := Lib.hid hL
      rw [hL]
      clear hdg hpk hre hnn hL
      go_wp2_with fail
      go_ret
      exact ⟨_, _, by rw [HLL.out]; rfl, HDG.out, HB.out⟩
end Go.Proofs.YtfccpfmgkpcnoaaDoor
