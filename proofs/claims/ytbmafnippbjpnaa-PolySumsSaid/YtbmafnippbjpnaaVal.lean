/- The walk of PolyValues. -/
import Derived.Test.YtbmafnippbjpnaaZe
import Derived.Test.YtbmafnippbjpnaaRoo
namespace Go.Proofs.Ytbmafnippbjpnaa
open Go.RowKit
set_option linter.unusedVariables false
set_option linter.unusedSimpArgs false
theorem reval_rv {p : List UInt8} {a : Value} {x : UInt8} {v : World} (hp : RowV p a v) : Calls Try.prog 21 #[a, .int .u8 (x.toNat : Int)] v fun e w' => e = .returned (.int .u8 ((evL p x).toNat : Int)) ∧ w' = v := by
  obtain ⟨o, c, rfl, hp⟩ := hp
  exact reval_any p x o c v hp
theorem rtrim_rv {p : List UInt8} {a : Value} {v : World} (hp : RowV p a v) (hl : p.length ≤ 1000000) : Calls Try.prog 10 #[a] v (Rows (tr p) v) := by
  obtain ⟨o, c, rfl, hp⟩ := hp
  exact rtrim_any p o c v hp hl
theorem zeros_rv {p : List UInt8} {a : Value} {v : World} (hp : RowV p a v) : Calls Try.prog 24 #[a] v (Rows (zl p 256) v) := by
  obtain ⟨o, c, rfl, hp⟩ := hp
  exact zeros_any p o c v hp
def sl (p : List UInt8) (k : Nat) : List UInt8 := tab (Gf.pd (co p)) k
theorem sl_tr (p : List UInt8) : tr (sl p (p.length - 1)) = tr (slopeL p) := tr_congr fun i => by
  rw [co_slopeL, sl]
  refine co_tab' _ _ _ fun j hj => ?_
  unfold Gf.pd
  split
  · exact co_ge (by omega)
  · rfl
def VsAt (p : List UInt8) (w : World) (v iv : Value) (wr : World) : Prop :=
  ∃ k : Nat, k ≤ p.length - 1 ∧ iv = .int .i64 ((k : Int) + 1) ∧ wr.ownsRow w.heap.size 5 1 v k (bytesV (sl p k)) ∧ Below w.heap.size w wr
def VzAt (p : List UInt8) (w : World) (v kv : Value) (wr : World) : Prop :=
  ∃ k : Nat, k ≤ 256 ∧ kv = .int .i64 k ∧ wr.ownsRow w.heap.size 5 1 v (zl p k).length (bytesV (zl p k)) ∧ Below w.heap.size w wr
/-- what each operation of the last statement has as its result -/
def ValG (p : List UInt8) (x : UInt8) (i : Nat) (y : Value) (v : World) : Prop :=
  match i with
  | 0 | 3 | 8 | 17 => RowV p y v
  | 1 | 4 => y = .int .u8 (x.toNat : Int)
  | 2 | 5 => y = .int .u8 ((evL p x).toNat : Int)
  | 9 => RowV (tr (slopeL p)) y v
  | 10 | 13 => y = .string ⟨(tr (slopeL p)).toArray⟩
  | 11 => RowV (sl p (p.length - 1)) y v
  | 12 => RowV (tr (sl p (p.length - 1))) y v
  | 18 | 20 => RowV (zl p 256) y v
  | 19 | 21 => y = .string ⟨(zl p 256).toArray⟩
  | _ => y = .bool true
theorem ValG.later {p : List UInt8} {x : UInt8} (i : Nat) (y : Value) (v v' : World) (h : ValG p x i y v) (hb : Below v.heap.size v v') : ValG p x i y v' := by
  unfold ValG at *
  split at h <;> first | exact h.later hb | exact h
set_option maxRecDepth 100000 in
set_option maxHeartbeats 2000000 in
theorem val_short (p : List UInt8) (x : UInt8) (o : Option Addr) (c : Nat) (w : World) (hP : RowIs w o (bytesV p) c) (hl1 : p.length ≤ 40) :
    Calls Try.prog 4 #[.slice o p.length c, .int .u8 (x.toNat : Int)] w fun e w' => e = .returned (.bool true) ∧ Below w.heap.size w w' := by
  have h1 := hP.le
  have h2 := hP.cap
  simp only [bytesV_length] at h1
  unfold maxLen at h2
  have HP := Lib.hid hP
  have hx := UInt8.toNat_lt x
  clear hP
  go_enter Try.func4, Try.ntmps4
  go_wp2_with fail
  refine (alive2_any _).mono ?_; rintro e w1 ⟨rfl, hg⟩
  have hown : (w1.alloc (.cells #[] 5)).ownsRow w1.heap.size 5 1 (.slice (some ⟨w1.heap.size, 0, none⟩) 0 0) 0 (bytesV (sl p 0)) := World.ownsRow_lit w1 #[] 0 (Nat.le_refl _) (Nat.zero_le _) rfl
  have HOWN := Lib.hid hown
  have HB0 : Hid (Below w1.heap.size w1 (w1.alloc (.cells #[] 5))) := Lib.hid ((Below.refl _ _).alloc (Nat.le_refl _) _)
  have HG := Lib.hid hg
  have HP1 := Lib.hid (HP.out.later hg)
  clear hg hown
  go_wp2_with fail
  go_loopw [5, 6] (fun v iv wr => VsAt p w1 v iv wr) (fun _ iv _ => p.length - (intOf iv).toNat)
  case atStart => exact ⟨0, by omega, rfl, HOWN.out, HB0.out⟩
  case round =>
    obtain ⟨k, hk, rfl, hv, hb⟩ := hrel
    have HV := Lib.hid hv
    have HB := Lib.hid hb
    by_cases hlt : k + 1 < p.length
    · have hki : (k : Int) + 1 < p.length := by omega
      have HTS : Hid (sl p k ++ [Gf.pd (co p) k] = sl p (k + 1)) := Lib.hid (tab_succ (Gf.pd (co p)) k)
      by_cases hev : k % 2 = 0
      · have hpd : Gf.pd (co p) k = co p (k + 1) := by unfold Gf.pd; rw [if_pos hev]
        rw [hpd] at HTS
        obtain ⟨b1, off1, rfl, hb1, hcell⟩ := (HP1.out.later hb).cells (by simp; omega)
        have hc1 : wr.cell? ⟨b1, off1 + (k + 1), none⟩ = some (.int .u8 ((co p (k + 1)).toNat : Int)) := hcell (k + 1) _ (bytesV_get p (k + 1) hlt)
        have ht1 : ((k : Int) + 1) % 2 = 1 := by omega
        have HV2 := Lib.hid (hv.alloc (.cells (bytesV [co p (k + 1)]).toArray 5))
        have HB2 := Lib.hid (hb.alloc hb.size (.cells (bytesV [co p (k + 1)]).toArray 5))
        clear hcell hv hb hpd
        generalize co p (k + 1) = y at *
        have hy := UInt8.toNat_lt y
        have hkk : k < p.length := by omega
        obtain ⟨i, hi⟩ : ∃ i, i = k + 1 := ⟨_, rfl⟩
        have hii : (k : Int) + 1 = (i : Int) := by omega
        have hil : i < p.length := by omega
        rw [← hi] at hc1
        rw [hii] at ht1 ⊢
        have HI := Lib.hid hii
        clear hii hi hlt hki hk hkk
        go_wp2_with (at_builtin; refine append_row rfl (.tmp 24) (.tmp 29) rfl w1.heap.size _ k (sl p k) rfl HV2.out _ 1 1 [y] rfl rfl (row_cells (World.alloc_heap_new _ _) (by unfold maxLen; simp)) (by have := HI.out; omega) HB2.out.size ?_)
        intro v' w3 hv hg
        rw [HTS.out] at hv
        have HV3 := Lib.hid hv
        have HB3 := Lib.hid (own_below (n := 0) HB2.out HV2.out hg)
        clear hv hg
        go_wp2
        go_roundw
        case rel =>
          have := HI.out
          exact ⟨k + 1, by omega, by go_num, HV3.out, HB3.out⟩
        case measure => simp [intOf]; omega
      · have hpd : Gf.pd (co p) k = 0 := by unfold Gf.pd; rw [if_neg hev]
        rw [hpd] at HTS
        have ht1 : ((k : Int) + 1) % 2 = 0 := by omega
        have HV2 := Lib.hid (hv.alloc (.cells (bytesV [0]).toArray 5))
        have HB2 := Lib.hid (hb.alloc hb.size (.cells (bytesV [0]).toArray 5))
        clear hv hb hpd
        obtain ⟨i, hi⟩ : ∃ i, i = k + 1 := ⟨_, rfl⟩
        have hii : (k : Int) + 1 = (i : Int) := by omega
        have hil : i < p.length := by omega
        rw [hii] at ht1 ⊢
        have HI := Lib.hid hii
        clear hii hi hlt hki hk
        go_wp2_with (at_builtin; refine append_row rfl (.tmp 31) (.tmp 32) rfl w1.heap.size _ k (sl p k) rfl HV2.out _ 1 1 [0] rfl rfl (row_cells (World.alloc_heap_new _ _) (by unfold maxLen; simp)) (by have := HI.out; omega) HB2.out.size ?_)
        intro v' w3 hv hg
        rw [HTS.out] at hv
        have HV3 := Lib.hid hv
        have HB3 := Lib.hid (own_below (n := 0) HB2.out HV2.out hg)
        clear hv hg
        go_wp2
        go_roundw
        case rel =>
          have := HI.out
          exact ⟨k + 1, by omega, by go_num, HV3.out, HB3.out⟩
        case measure => simp [intOf]; omega
    · have hkk : k = p.length - 1 := by omega
      have HS5 : Hid (RowV (sl p (p.length - 1)) u5 wr) := Lib.hid (by rw [← hkk]; exact owns_rv hv (by simp [sl]))
      have hown2 : (wr.alloc (.cells #[] 5)).ownsRow wr.heap.size 5 1 (.slice (some ⟨wr.heap.size, 0, none⟩) 0 0) 0 (bytesV (zl p 0)) := World.ownsRow_lit wr #[] 0 (Nat.le_refl _) (Nat.zero_le _) rfl
      have HOWN2 := Lib.hid hown2
      have HB02 : Hid (Below wr.heap.size wr (wr.alloc (.cells #[] 5))) := Lib.hid ((Below.refl _ _).alloc (Nat.le_refl _) _)
      have HGW := Lib.hid (Kit.step HG.out hb)
      have HPW := Lib.hid (HP1.out.later hb)
      have hki : ¬ ((k : Int) + 1 < p.length) := by omega
      clear hv hb hown2 hkk hlt hk
      go_wp2_with fail
      go_loopw [7, 8] (fun v kv w2 => VzAt p wr v kv w2) (fun _ kv _ => 256 - (intOf kv).toNat)
      case atStart => exact ⟨0, by omega, rfl, HOWN2.out, HB02.out⟩
      case round =>
        rename_i w2 _
        obtain ⟨k, hk, rfl, hv, hb⟩ := hrel
        have HV := Lib.hid hv
        have HB := Lib.hid hb
        by_cases hlt : k < 256
        · obtain ⟨y, hy⟩ : ∃ y, UInt8.ofNat k = y := ⟨_, rfl⟩
          have hyk : y.toNat = k := by rw [← hy, UInt8.toNat_ofNat']; omega
          have hval := reval_any p y o c _ (HPW.out.later hb)
          rw [hyk] at hval
          have HVAL := Lib.hid hval
          have hm1 : (k : Int) % 256 = (k : Int) := by omega
          have hzl := zl_length p k
          have HZ : Hid (zl p (k + 1) = if evL p y = 0 then zl p k ++ [y] else zl p k) := Lib.hid (by rw [← hy]; rfl)
          have HCE : Hid ((.cells #[.int .u8 (k : Int)] 5 : Obj) = .cells (bytesV [y]).toArray 5) := Lib.hid (by simp [bytesV, hyk])
          have HV2 := Lib.hid (hv.alloc (.cells #[.int .u8 (k : Int)] 5))
          have HB2 := Lib.hid (hb.alloc hb.size (.cells #[.int .u8 (k : Int)] 5))
          have HROW := Lib.hid (fun (v : World) => (by rw [HCE.out]; exact row_cells (World.alloc_heap_new _ _) (by unfold maxLen; simp) : RowIs (v.alloc (.cells #[.int .u8 (k : Int)] 5)) (some ⟨v.heap.size, 0, none⟩) (bytesV [y]) 1))
          clear hval hv hb hy hyk
          generalize evL p y = t at *
          have htl := UInt8.toNat_lt t
          by_cases h0 : t = 0
          · subst h0
            have hz0 : Hid (zl p (k + 1) = zl p k ++ [y]) := Lib.hid (by rw [HZ.out, if_pos rfl])
            go_wp2_with fail
            refine HVAL.out.mono ?_; rintro e w' ⟨rfl, rfl⟩
            go_wp2_with (at_builtin; refine append_row rfl (.tmp 44) (.tmp 47) rfl wr.heap.size _ (zl p k).length (zl p k) rfl HV2.out _ 1 1 [y] rfl rfl (HROW.out _) (by omega) HB2.out.size ?_)
            intro v' w3 hv hg
            have hv3 : w3.ownsRow wr.heap.size 5 1 v' (zl p (k + 1)).length (bytesV (zl p (k + 1))) := by
              rw [hz0.out]
              simpa using hv
            have HV3 := Lib.hid hv3
            have HB3 := Lib.hid (own_below (n := 0) HB2.out HV2.out hg)
            clear hv hg hv3
            go_wp2
            go_roundw
            case rel => exact ⟨k + 1, by omega, by go_num, HV3.out, HB3.out⟩
            case measure => simp [intOf]; omega
          · have h00 : ¬ t.toNat = 0 := fun e => h0 (Gf.u8_ext e)
            have hy1 : ((t.toNat : Int) == 0) = false := by simpa using h00
            have hz0 : Hid (zl p (k + 1) = zl p k) := Lib.hid (by rw [HZ.out, if_neg h0])
            go_wp2_with fail
            refine HVAL.out.mono ?_; rintro e w' ⟨rfl, rfl⟩
            go_wp2_with fail
            go_roundw
            case rel => exact ⟨k + 1, by omega, by go_num, by rw [hz0.out]; exact HV.out, HB.out⟩
            case measure => simp [intOf]; omega
        · obtain rfl : k = 256 := by omega
          have h7 := owns_rv hv rfl
          have h5 := HS5.out.later hb
          have hP2 := HPW.out.later hb
          have HG2 := Lib.hid (Kit.step HGW.out hb)
          clear hv hb
          go_wp2_with fail
          have hsl : (tr (slopeL p)).length ≤ p.length := by have := tr_le (slopeL p); simpa [slopeL] using this
          refine Rg.region_grow (by kernel_rfl) (ValG p x) (by kernel_rfl) ValG.later ?gd ?step ?fin
          case gd =>
            intro i op k t ho hg y v hG
            have hi := (Array.getElem?_eq_some_iff.1 ho).1
            match i, hi with
            | 0, _ =>
              obtain rfl := Option.some.inj ho
              cases hg
            | 1, _ =>
              obtain rfl := Option.some.inj ho
              cases hg
            | 2, _ =>
              obtain rfl := Option.some.inj ho
              cases hg
            | 3, _ =>
              obtain rfl := Option.some.inj ho
              cases hg
            | 4, _ =>
              obtain rfl := Option.some.inj ho
              cases hg
            | 5, _ =>
              obtain rfl := Option.some.inj ho
              cases hg
            | 6, _ =>
              obtain rfl := Option.some.inj ho
              cases hg
            | 7, _ =>
              obtain rfl := Option.some.inj ho
              cases hg
            | 8, _ =>
              obtain rfl := Option.some.inj ho
              obtain ⟨rfl, rfl⟩ : 7 = k ∧ true = t := by simpa using hg
              exact hG
            | 9, _ =>
              obtain rfl := Option.some.inj ho
              obtain ⟨rfl, rfl⟩ : 7 = k ∧ true = t := by simpa using hg
              exact hG
            | 10, _ =>
              obtain rfl := Option.some.inj ho
              obtain ⟨rfl, rfl⟩ : 7 = k ∧ true = t := by simpa using hg
              exact hG
            | 11, _ =>
              obtain rfl := Option.some.inj ho
              obtain ⟨rfl, rfl⟩ : 7 = k ∧ true = t := by simpa using hg
              exact hG
            | 12, _ =>
              obtain rfl := Option.some.inj ho
              obtain ⟨rfl, rfl⟩ : 7 = k ∧ true = t := by simpa using hg
              exact hG
            | 13, _ =>
              obtain rfl := Option.some.inj ho
              obtain ⟨rfl, rfl⟩ : 7 = k ∧ true = t := by simpa using hg
              exact hG
            | 14, _ =>
              obtain rfl := Option.some.inj ho
              obtain ⟨rfl, rfl⟩ : 7 = k ∧ true = t := by simpa using hg
              exact hG
            | 15, _ =>
              obtain rfl := Option.some.inj ho
              cases hg
            | 16, _ =>
              obtain rfl := Option.some.inj ho
              cases hg
            | 17, _ =>
              obtain rfl := Option.some.inj ho
              obtain ⟨rfl, rfl⟩ : 16 = k ∧ true = t := by simpa using hg
              exact hG
            | 18, _ =>
              obtain rfl := Option.some.inj ho
              obtain ⟨rfl, rfl⟩ : 16 = k ∧ true = t := by simpa using hg
              exact hG
            | 19, _ =>
              obtain rfl := Option.some.inj ho
              obtain ⟨rfl, rfl⟩ : 16 = k ∧ true = t := by simpa using hg
              exact hG
            | 20, _ =>
              obtain rfl := Option.some.inj ho
              obtain ⟨rfl, rfl⟩ : 16 = k ∧ true = t := by simpa using hg
              exact hG
            | 21, _ =>
              obtain rfl := Option.some.inj ho
              obtain ⟨rfl, rfl⟩ : 16 = k ∧ true = t := by simpa using hg
              exact hG
            | 22, _ =>
              obtain rfl := Option.some.inj ho
              obtain ⟨rfl, rfl⟩ : 16 = k ∧ true = t := by simpa using hg
              exact hG
            | 23, _ =>
              obtain rfl := Option.some.inj ho
              cases hg
            | 24, _ =>
              obtain rfl := Option.some.inj ho
              cases hg
            | n + 25, h => exact absurd h (by simp)
          case step =>
            intro i op b v ho hb hrest hdep
            have r0 : b.eval (.tmp 0) = .slice o p.length c := hrest 0 (Rg.free_spec (by kernel_rfl))
            have r1 : b.eval (.tmp 1) = .int .u8 (x.toNat : Int) := hrest 1 (Rg.free_spec (by kernel_rfl))
            have r5 : b.eval (.tmp 5) = u5 := hrest 5 (Rg.free_spec (by kernel_rfl))
            have r7 : b.eval (.tmp 7) = u7 := hrest 7 (Rg.free_spec (by kernel_rfl))
            have hp : RowV p (.slice o p.length c) v := ⟨_, _, rfl, hP2.later hb⟩
            have hi := (Array.getElem?_eq_some_iff.1 ho).1
            match i, hi with
            | 0, _ =>
              obtain rfl := Option.some.inj ho
              refine Rg.does_move rfl ?_
              rw [r0]; exact hp
            | 1, _ =>
              obtain rfl := Option.some.inj ho
              refine Rg.does_move rfl ?_
              rw [r1]; rfl
            | 2, _ =>
              obtain rfl := Option.some.inj ho
              have d1 : RowV p (b.eval (.tmp 49)) v := hdep ⟨0, .data⟩ (by simp) rfl _ _ rfl rfl
              have d2 : b.eval (.tmp 50) = .int .u8 (x.toNat : Int) := hdep ⟨1, .data⟩ (by simp) rfl _ _ rfl rfl
              refine Rg.does_fn rfl (enters_of Try.func22 (by kernel_rfl) rfl) (args := #[b.eval (.tmp 49), b.eval (.tmp 50)]) (by simp) ?_
              rw [d2]
              refine (eval_rv d1).mono ?_
              rintro e v' ⟨rfl, h⟩
              exact ⟨_, rfl, rfl, h⟩
            | 3, _ =>
              obtain rfl := Option.some.inj ho
              refine Rg.does_move rfl ?_
              rw [r0]; exact hp
            | 4, _ =>
              obtain rfl := Option.some.inj ho
              refine Rg.does_move rfl ?_
              rw [r1]; rfl
            | 5, _ =>
              obtain rfl := Option.some.inj ho
              have d1 : RowV p (b.eval (.tmp 52)) v := hdep ⟨3, .data⟩ (by simp) rfl _ _ rfl rfl
              have d2 : b.eval (.tmp 53) = .int .u8 (x.toNat : Int) := hdep ⟨4, .data⟩ (by simp) rfl _ _ rfl rfl
              refine Rg.does_fn rfl (enters_of Try.func21 (by kernel_rfl) rfl) (args := #[b.eval (.tmp 52), b.eval (.tmp 53)]) (by simp) ?_
              rw [d2]
              refine (reval_rv d1).mono ?_
              rintro e v' ⟨rfl, h⟩
              exact ⟨_, rfl, rfl, by rw [h]; exact Below.refl _ _⟩
            | 6, _ =>
              obtain rfl := Option.some.inj ho
              have d1 : (b.eval (.tmp 51)) = .int .u8 ((evL p x).toNat : Int) := hdep ⟨2, .data⟩ (by simp) rfl _ _ rfl rfl
              have d2 : (b.eval (.tmp 54)) = .int .u8 ((evL p x).toNat : Int) := hdep ⟨5, .data⟩ (by simp) rfl _ _ rfl rfl
              have f1 : b.tmps[51]?.getD undef = _ := (show _ = b.eval (.tmp 51) by simp [Act.eval]).trans d1
              have f2 : b.tmps[54]?.getD undef = _ := (show _ = b.eval (.tmp 54) by simp [Act.eval]).trans d2
              refine Rg.does_pure (.bool true) ?_ rfl
              have hu := Try.underlying9
              have hu2 := Try.underlying5
              simp only [execOp]
              go_simp
            | 7, _ =>
              obtain rfl := Option.some.inj ho
              have d1 : b.eval (.tmp 55) = .bool true := hdep ⟨6, .data⟩ (by simp) rfl _ _ rfl rfl
              exact Rg.does_move rfl d1
            | 8, _ =>
              obtain rfl := Option.some.inj ho
              refine Rg.does_move rfl ?_
              rw [r0]; exact hp
            | 9, _ =>
              obtain rfl := Option.some.inj ho
              have d1 : RowV p (b.eval (.tmp 57)) v := hdep ⟨8, .data⟩ (by simp) rfl _ _ rfl rfl
              exact Rg.does_fn rfl (enters_of Try.func23 (by kernel_rfl) rfl) (args := #[b.eval (.tmp 57)]) (by simp) (slope_rv d1 (by omega))
            | 10, _ =>
              obtain rfl := Option.some.inj ho
              have d1 : RowV (tr (slopeL p)) (b.eval (.tmp 58)) v := hdep ⟨9, .data⟩ (by simp) rfl _ _ rfl rfl
              exact Rg.does_conv rfl (conv_rv d1) (rfl)
            | 11, _ =>
              obtain rfl := Option.some.inj ho
              refine Rg.does_move rfl ?_
              rw [r5]; exact h5.later hb
            | 12, _ =>
              obtain rfl := Option.some.inj ho
              have d1 : RowV (sl p (p.length - 1)) (b.eval (.tmp 60)) v := hdep ⟨11, .data⟩ (by simp) rfl _ _ rfl rfl
              exact Rg.does_fn rfl (enters_of Try.func10 (by kernel_rfl) rfl) (args := #[b.eval (.tmp 60)]) (by simp) (rtrim_rv d1 (by simp [sl]; omega))
            | 13, _ =>
              obtain rfl := Option.some.inj ho
              have d1 : RowV (tr (sl p (p.length - 1))) (b.eval (.tmp 61)) v := hdep ⟨12, .data⟩ (by simp) rfl _ _ rfl rfl
              exact Rg.does_conv rfl (conv_rv d1) (by show _ = _; rw [sl_tr])
            | 14, _ =>
              obtain rfl := Option.some.inj ho
              have d1 : (b.eval (.tmp 59)) = .string ⟨(tr (slopeL p)).toArray⟩ := hdep ⟨10, .data⟩ (by simp) rfl _ _ rfl rfl
              have d2 : (b.eval (.tmp 62)) = .string ⟨(tr (slopeL p)).toArray⟩ := hdep ⟨13, .data⟩ (by simp) rfl _ _ rfl rfl
              have f1 : b.tmps[59]?.getD undef = _ := (show _ = b.eval (.tmp 59) by simp [Act.eval]).trans d1
              have f2 : b.tmps[62]?.getD undef = _ := (show _ = b.eval (.tmp 62) by simp [Act.eval]).trans d2
              refine Rg.does_pure (.bool true) ?_ rfl
              have hu := Try.underlying9
              have hu2 := Try.underlying5
              simp only [execOp]
              go_simp
            | 15, _ =>
              obtain rfl := Option.some.inj ho
              have d1 : b.eval (.tmp 56) = .bool true := hdep ⟨7, .data⟩ (by simp) rfl _ _ rfl rfl
              have d2 : b.eval (.tmp 63) = .bool true := hdep ⟨14, .data⟩ (by simp) rfl _ _ rfl rfl
              exact Rg.does_pick rfl d1 d2
            | 16, _ =>
              obtain rfl := Option.some.inj ho
              have d1 : b.eval (.tmp 64) = .bool true := hdep ⟨15, .data⟩ (by simp) rfl _ _ rfl rfl
              exact Rg.does_move rfl d1
            | 17, _ =>
              obtain rfl := Option.some.inj ho
              refine Rg.does_move rfl ?_
              rw [r0]; exact hp
            | 18, _ =>
              obtain rfl := Option.some.inj ho
              have d1 : RowV p (b.eval (.tmp 66)) v := hdep ⟨17, .data⟩ (by simp) rfl _ _ rfl rfl
              exact Rg.does_fn rfl (enters_of Try.func24 (by kernel_rfl) rfl) (args := #[b.eval (.tmp 66)]) (by simp) (zeros_rv d1)
            | 19, _ =>
              obtain rfl := Option.some.inj ho
              have d1 : RowV (zl p 256) (b.eval (.tmp 67)) v := hdep ⟨18, .data⟩ (by simp) rfl _ _ rfl rfl
              exact Rg.does_conv rfl (conv_rv d1) (rfl)
            | 20, _ =>
              obtain rfl := Option.some.inj ho
              refine Rg.does_move rfl ?_
              rw [r7]; exact h7.later hb
            | 21, _ =>
              obtain rfl := Option.some.inj ho
              have d1 : RowV (zl p 256) (b.eval (.tmp 69)) v := hdep ⟨20, .data⟩ (by simp) rfl _ _ rfl rfl
              exact Rg.does_conv rfl (conv_rv d1) (rfl)
            | 22, _ =>
              obtain rfl := Option.some.inj ho
              have d1 : (b.eval (.tmp 68)) = .string ⟨(zl p 256).toArray⟩ := hdep ⟨19, .data⟩ (by simp) rfl _ _ rfl rfl
              have d2 : (b.eval (.tmp 70)) = .string ⟨(zl p 256).toArray⟩ := hdep ⟨21, .data⟩ (by simp) rfl _ _ rfl rfl
              have f1 : b.tmps[68]?.getD undef = _ := (show _ = b.eval (.tmp 68) by simp [Act.eval]).trans d1
              have f2 : b.tmps[70]?.getD undef = _ := (show _ = b.eval (.tmp 70) by simp [Act.eval]).trans d2
              refine Rg.does_pure (.bool true) ?_ rfl
              have hu := Try.underlying9
              have hu2 := Try.underlying5
              simp only [execOp]
              go_simp
            | 23, _ =>
              obtain rfl := Option.some.inj ho
              have d1 : b.eval (.tmp 65) = .bool true := hdep ⟨16, .data⟩ (by simp) rfl _ _ rfl rfl
              have d2 : b.eval (.tmp 71) = .bool true := hdep ⟨22, .data⟩ (by simp) rfl _ _ rfl rfl
              exact Rg.does_pick rfl d1 d2
            | 24, _ =>
              obtain rfl := Option.some.inj ho
              have d1 : b.eval (.tmp 72) = .bool true := hdep ⟨23, .data⟩ (by simp) rfl _ _ rfl rfl
              exact Rg.does_assign rfl d1
            | n + 25, h => exact absurd h (by simp)
          case fin =>
            intro b v hb hs hd hrest hall
            have h4 : b.tmps.getD 4 undef = .bool true := hall 24 _ 4 rfl rfl
            have HB := Lib.hid (Kit.step HG2.out hb)
            go_wp2
            refine bodyPost_ret (results_tmp rfl _ _ _) hd ?_
            exact ⟨by rw [h4], HB.out⟩
theorem val_long (z : List UInt8) (x : UInt8) (o : Option Addr) (c : Nat) (w : World) (hl : 40 < z.length) (h1 : z.length ≤ 9223372036854775807) :
    Calls Try.prog 4 #[.slice o z.length c, .int .u8 (x.toNat : Int)] w fun e w' => e = .returned (.bool true) ∧ Below w.heap.size w w' := by
  go_enter Try.func4, Try.ntmps4
  go_wp2_with fail
  refine (alive2_any _).mono ?_; rintro e w1 ⟨rfl, hg⟩
  have HG := Lib.hid hg
  clear hg
  go_wp2_with fail
  go_ret
  exact ⟨rfl, HG.out⟩
theorem val_walk (z : List UInt8) (x : UInt8) (o : Option Addr) (c : Nat) (w : World) (hP : RowIs w o (bytesV z) c) :
    Calls Try.prog 4 #[.slice o z.length c, .int .u8 (x.toNat : Int)] w fun e w' => e = .returned (.bool true) ∧ Below w.heap.size w w' := by
  by_cases hl : 40 < z.length
  · have h1 := hP.le
    have h2 := hP.cap
    simp only [bytesV_length] at h1
    unfold maxLen at h2
    exact val_long z x o c w hl (by omega)
  · exact val_short z x o c w hP (by omega)
end Go.Proofs.Ytbmafnippbjpnaa
