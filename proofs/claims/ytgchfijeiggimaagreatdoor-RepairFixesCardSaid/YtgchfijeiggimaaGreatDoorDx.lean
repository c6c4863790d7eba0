/- The document's Fix: a word is mended just if it can be. -/
import Derived.Test.YtgchfijeiggimaaGreatDoorTd
import Derived.Test.YtgchfijeiggimaaGreatDoorWa
namespace Go.Proofs.YtgchfijeiggimaaGreatDoor
open Go.RowKit
set_option linter.unusedVariables false
set_option linter.unusedSimpArgs false
theorem results_tmp4 {fn : Func} {t u v x : Tmp} (h : fn.results = #[.tmp t, .tmp u, .tmp v, .tmp x]) (tmps : Array Value) (P : Program) (w : World) :
    (results fn tmps).run P w = .ok (.tuple #[tmps.getD t undef, tmps.getD u undef, tmps.getD v undef, tmps.getD x undef]) w := by
  simp [results, h]
def bad_r (k : Nat) : Ending := .returned (.tuple #[.slice none 0 0, .slice none 0 0, .int .i64 0, .int .i64 (k : Int)])
def RxTo (W : List UInt8) (n : Nat) (z : List Int) (w : World) (e : Ending) (w' : World) : Prop :=
  Below w.heap.size w w' ∧ (((∀ v H, ¬ Chg v W n z H) ∧ e = bad_r 17) ∨ ∃ v H x1 x2, Chg v W n z H ∧ e = .returned (.tuple #[x1, x2, .int .i64 (H.length : Int), .int .i64 0]) ∧ RowV v x1 w' ∧ IntsV (dfL v W n) x2 w')
theorem least_of (P : Nat → Prop) (k : Nat) (h : P k) : ∃ L, P L ∧ L ≤ k ∧ ∀ M, P M → L ≤ M := by
  induction k using Nat.strongRecOn with
  | ind k ih =>
    by_cases h2 : ∃ M, M < k ∧ P M
    · obtain ⟨M, h3, h4⟩ := h2
      obtain ⟨L, h5, h6, h7⟩ := ih M h3 h4
      exact ⟨L, h5, by omega, h7⟩
    · exact ⟨k, h, Nat.le_refl _, fun M hM => by
        by_cases h3 : M < k
        · exact absurd ⟨M, h3, hM⟩ h2
        · omega⟩
theorem run_least (s : Nat → UInt8) (n : Nat) : ∃ L c, Gf.Run s n c L ∧ Gf.Least s n L ∧ L ≤ n := by
  obtain ⟨L, ⟨c, hc⟩, hL, hm⟩ := least_of (fun L => ∃ c, Gf.Run s n c L) n ⟨co [1], rfl, fun i h1 h2 => by omega⟩
  exact ⟨L, c, hc, fun d M h => hm M ⟨d, h⟩, hL⟩
/-- a solution of the equations is a register -/
theorem rf_of {R x : List UInt8} {L : Nat} (hx : x.length = L) (hs : Gf.Sol (Gf.regM (co R) L) (R.length - L) L (co x)) (hl : Gf.Least (co R) R.length L) (hL : L ≤ R.length) : RF R (1 :: x) L := by
  have e : co (1 :: x) = Gf.regC (co x) := funext fun j => by
    unfold Gf.regC
    cases j with
    | zero => rfl
    | succ j => rw [if_neg (by omega), Nat.add_sub_cancel]; simp [co]
  refine ⟨?_, hl, hL, by simp [hx]⟩
  rw [e]
  exact (Gf.sol_run (co R) R.length L (co x)).1 hs
def DxAt (L m : Nat) (w0 : World) (tv : Value) (wr : World) : Prop := ∃ t : Nat, t ≤ L ∧ 2 * t ≤ m + 2 ∧ tv = .int .i64 t ∧ Below w0.heap.size w0 wr
theorem rfix_bad (n cz a m : Nat) (z : List Int) (A : Nat → Addr) (o oz : Option Addr) (c : Nat) (w : World) (hZ : RowIs w oz (intsV z) cz) (ha : a + 1 = m)
    (hB : ∀ (v : World) (o : Option Addr) (c : Nat), RowIs v o (intsV z) c → Calls Tryz.prog 19 #[.int .i64 (n : Int), .slice o z.length c] v fun e w' => e = .returned (.tuple #[.slice none 0 0, .int .i64 (m : Int)]) ∧ Below v.heap.size v w') :
    Calls Tryz.prog 8 #[.slice o n c, .slice oz z.length cz] w fun e w' => e = bad_r m ∧ Below w.heap.size w w' := by
  have HB := Lib.hid (hB w oz cz hZ)
  have hm0 : ((m : Int) == 0) = false := beq_false_of_ne (by omega)
  have hm1 : ((m : Int) != 0) = true := by rw [bne_iff_ne]; omega
  have hm2 : ¬ ((m : Int) = 0) := by omega
  clear hB ha hZ
  go_enter Tryz.func8, Tryz.ntmps8
  go_wp2_with fail
  refine HB.out.mono ?_; rintro e w1 ⟨rfl, hb⟩
  have HB1 := Lib.hid hb
  clear hb HB
  go_wp2_with fail
  refine bodyPost_ret (results_tmp4 rfl _ _ _) rfl ?_
  exact ⟨rfl, HB1.out⟩
set_option maxRecDepth 100000 in
set_option maxHeartbeats 2000000 in
theorem rfix_any (W : List UInt8) (z : List Int) (n c cz : Nat) (o oz : Option Addr) (w : World) (hW : RowIs w o (bytesV W) c) (hZ : RowIs w oz (intsV z) cz) (hn : W.length = n) (hG : ErGood n z)
    (Z : Array Value) (hZs : (bytesV zsyn).toArray = Z) (CS : Array Value) (hCS : (bytesV (synL W)).toArray = CS) :
    Calls Tryz.prog 8 #[.slice o n c, .slice oz z.length cz] w (RxTo W n z w) := by
  have h33 := hG.lo
  have h255 := hG.hi
  have hok := hG.ok
  have hz32 := hok.2.2
  have HER := Lib.hid (hG.ref w oz cz hZ)
  have HW := Lib.hid hW
  have HZ := Lib.hid hZ
  have HN := Lib.hid hn
  have HOK := Lib.hid hok
  have h1 := hW.le
  have h2 := hW.cap
  have h3 := hZ.le
  have h4 := hZ.cap
  simp only [bytesV_length, intsV_length] at h1 h3
  rw [hn] at h1
  unfold maxLen at h2 h4
  have hzs := zero_syn
  rw [hZs] at hzs
  have hz1 := one_cell (synL W)
  rw [hCS] at hz1
  have HZ1 := Lib.hid hz1
  have hz2 := syn_size (ys := synL W) (by simp [synL])
  rw [hCS] at hz2
  have HZ2 := Lib.hid hz2
  have HZC : Hid (Z.size = CS.size) := Lib.hid (by rw [← hZs, ← hCS]; simp [zsyn, synL])
  have HCS := Lib.hid hCS
  have HLEN := Lib.hid (loc_len n z)
  have HTR := Lib.hid (loc_tr n z)
  have HRL0 := for_len (synL W) n z
  have hno : ∀ L c, Gf.Least (co (forL (synL W) (Gf.locL (xsL n z)))) (forL (synL W) (Gf.locL (xsL n z))).length L → Gf.Run (co (forL (synL W) (Gf.locL (xsL n z)))) (forL (synL W) (Gf.locL (xsL n z))).length c L → L ≤ (forL (synL W) (Gf.locL (xsL n z))).length → 32 < 2 * L + z.length → ∀ v H, ¬ Chg v W n z H := fun L c hl hr hle hb v H h => by
    have hx := rf_of (x := tab (fun j => c (j + 1)) L) (by simp) (by
      have h5 := Gf.run_sol hr
      intro i hi
      rw [← h5 i hi]
      exact Gf.sm_congr fun j hj => by rw [co_tab _ _ _ hj]) hl hle
    have h6 := (h.reg hx).1
    have := h.few
    omega
  have HNO := Lib.hid hno
  clear hW hZ hn hok hG hZs hCS hz1 hz2 hno
  go_enter Tryz.func8, Tryz.ntmps8
  go_wp2_with fail
  refine HER.out.mono ?_; rintro e w1 ⟨x1, rfl, hx1, hb1⟩
  obtain ⟨oG, cG, rfl, hx1⟩ := hx1
  have HB1 := Lib.hid hb1
  have HG1 := Lib.hid hx1
  have hrs := rsyn_any W o c w1 (HW.out.later hb1)
  rw [HCS.out, HN.out] at hrs
  have HRS := Lib.hid hrs
  obtain ⟨G, hGe⟩ : ∃ G, Gf.locL (xsL n z) = G := ⟨_, rfl⟩
  rw [hGe] at HLEN HTR HRL0 HNO HG1 ⊢
  have HGE := Lib.hid hGe
  clear hb1 hx1 hrs HER hGe
  go_wp2_with fail
  refine HRS.out.mono ?_; rintro e w2 ⟨rfl, hb2⟩
  have HB2 := Lib.hid (Kit.step HB1.out hb2)
  have HG2 := Lib.hid (HG1.out.later hb2)
  have HGa : Hid ((w2.alloc (.cells Z 42)).heap[w2.heap.size]? = some (.cells Z 42 (0, 0))) := Lib.hid (World.alloc_heap_new _ _)
  obtain ⟨w3, hw3⟩ : ∃ w3, (w2.alloc (.cells Z 42)).setRow w2.heap.size CS = w3 := ⟨_, rfl⟩
  have hb3 : Below w2.heap.size w2 w3 := by rw [← hw3]; exact ((Below.refl _ _).alloc (Nat.le_refl _) _).trans (below_setRow (Nat.le_refl _))
  have hs3 : w3.heap[w2.heap.size]? = some (.cells CS 42 (0, 0)) := by rw [← hw3]; exact setRow_heap _ _ _ _ _ _ HGa.out
  have HS3 := Lib.hid hs3
  have HB3 := Lib.hid (Kit.step HB2.out hb3)
  have HG3 := Lib.hid (HG2.out.later hb3)
  have HW3 := Lib.hid hw3
  have HFO := Lib.hid (rfor_any (synL W) G oG cG w3 (by simp [synL]) HG3.out (by rw [HLEN.out]; omega) (by rw [HTR.out, HLEN.out]; omega) (by rw [HTR.out, HLEN.out]; omega) CS HCS.out)
  obtain ⟨R, hR⟩ : ∃ R, forL (synL W) G = R := ⟨_, rfl⟩
  rw [hR] at HFO HRL0 HNO
  have HRE := Lib.hid hR
  clear hb2 hb3 hw3 hs3 hR HRS
  go_wp2_with (first | (refine wpList_store_row rfl 42 (.tmp 10) (.tmp 28) rfl w2.heap.size CS rfl rfl 42 Z HGa.out HZ2.out HZC.out HZ1.out ?_; rw [HW3.out]) | refine wpList_load_row rfl 42 (.tmp 10) rfl w2.heap.size rfl 42 CS (0, 0) _ HS3.out syn_under rfl HZ2.out ?_)
  refine HFO.out.mono ?_; rintro e w4 ⟨x4, rfl, hx4, hb4⟩
  obtain ⟨oR, cR, rfl, hx4⟩ := hx4
  obtain ⟨gS, hgS⟩ : ∃ gS, w2.heap.size = gS := ⟨_, rfl⟩
  have hs4 : w4.heap[w2.heap.size]? = some (.cells CS 42 (0, 0)) := by rw [hb4.block _ (Array.getElem?_eq_some_iff.1 HS3.out).1]; exact HS3.out
  rw [hgS] at hs4 ⊢
  have HS4 := Lib.hid hs4
  have HB4 := Lib.hid (Kit.step HB3.out hb4)
  have HR4 := Lib.hid hx4
  have hrle := hx4.le
  have hrcap := hx4.cap
  simp only [bytesV_length] at hrle
  unfold maxLen at hrcap
  obtain ⟨L, cc, hrun, hlea, hLle⟩ := run_least (co R) R.length
  obtain ⟨m, hm⟩ : ∃ m, R.length = m := ⟨_, rfl⟩
  have HRUN := Lib.hid hrun
  have HLEA := Lib.hid hlea
  have HML := Lib.hid hm
  have hm32 : m = 32 - z.length := by rw [← hm]; exact HRL0
  have hmz1 : m + z.length ≤ 32 := by omega
  have hmz2 : 32 ≤ m + z.length := by omega
  rw [hm] at hLle hrle ⊢
  clear hb4 hs4 hx4 hrun hlea hm hgS HS3 HRL0 HFO hm32
  go_wp2_with fail
  go_loopw [12, 13, 14] (fun tv _ _ wr => DxAt L m w4 tv wr) (fun tv _ _ _ => 32 - (intOf tv).toNat)
  case atStart => exact ⟨0, Nat.zero_le _, by omega, rfl, Below.refl _ _⟩
  case round =>
    obtain ⟨t, htL, htm, rfl, hb⟩ := hrel
    have HB := Lib.hid hb
    have hw2t : IntKind.i64.wrap (2 * (t : Int)) = 2 * (t : Int) := by rw [IntKind.wrap_i64]; omega
    by_cases h2t : 2 * t ≤ m
    · have hd : decide (2 * (t : Int) ≤ (m : Int)) = true := decide_eq_true (by omega)
      have hd' : decide (2 * t ≤ m) = true := decide_eq_true h2t
      have hrg := register_any R t oR cR wr (HR4.out.later hb) (by rw [HML.out]; omega) (by rw [HML.out]; omega)
      rw [HML.out] at hrg
      have HRG := Lib.hid hrg
      clear hrg hb
      go_wp2_with fail
      refine HRG.out.mono ?_; rintro e w5 ⟨hb5, ⟨x, v, hx1, hx2, rfl, hx3⟩ | ⟨hns, rfl⟩⟩
      case inr =>
        have htl : t < L := by
          by_cases e : t = L
          · subst e
            have h5 := HRUN.out
            rw [HML.out] at h5
            exact absurd (Gf.run_sol h5) (hns _)
          · omega
        have HB5 := Lib.hid (Kit.step HB.out hb5)
        clear hb5 hns HRG
        go_wp2_with fail
        go_roundw
        case rel => exact ⟨t + 1, by omega, by omega, by go_num, HB5.out⟩
        case measure => simp [intOf]; omega
      obtain rfl : t = L := by
        have h5 := HLEA.out _ _ ((Gf.sol_run (co R) R.length t (co x)).1 (by rw [HML.out]; exact hx2))
        omega
      have hrf := rf_of (R := R) hx1 (by rw [HML.out]; exact hx2) HLEA.out (by rw [HML.out]; omega)
      have hrf2 : RF (forL (synL W) (Gf.locL (xsL n z))) (1 :: x) t := by rw [HGE.out, HRE.out]; exact hrf
      have HRF := Lib.hid hrf2
      have HB5 := Lib.hid (Kit.step HB.out hb5)
      have HX1 := Lib.hid hx1
      obtain ⟨o5, c5, rfl, hx3⟩ := hx3
      have HX3 := Lib.hid hx3
      have hxle := hx3.le
      have hxcap := hx3.cap
      simp only [bytesV_length] at hxle
      unfold maxLen at hxcap
      rw [hx1] at hxle ⊢
      have hreg : (fnd n z (1 :: x) n).length = t → Reg W (1 :: x) n t z (fnd n z (1 :: x) n) := fun h => ⟨HN.out, h255, HOK.out, hrf2, by omega, fnd_nodup _ _ _ _, h, fun p hp => mem_fnd.1 hp⟩
      have HREG := Lib.hid hreg
      have HTD : Hid (∀ v oB cB, Below w5.heap.size w5 v → RowIs v oB (bytesV (1 :: x)) cB → Calls Tryz.prog 23 #[.slice o n c, .agg CS, .slice oB (t + 1) cB, .slice oz z.length cz, .int .i64 t] v (TdTo W (1 :: x) n t z v)) := Lib.hid fun v oB cB hb hr => by
        have := tried_any W (1 :: x) z n t o oB oz c cB cz v (HW.out.later (Kit.step (Kit.step HB4.out HB5.out) hb)) hr (HZ.out.later (Kit.step (Kit.step HB4.out HB5.out) hb)) HN.out h33 h255 HOK.out (by simp; omega) CS HCS.out (by omega) hreg
        rwa [show (1 :: x).length = t + 1 by simp [hx1]] at this
      have HNOC : Hid ((fnd n z (1 :: x) n).length ≠ t → ∀ v H, ¬ Chg v W n z H) := Lib.hid fun h v H hc => h (hc.count hrf2 (fnd_nodup _ _ _ _) fun p => mem_fnd)
      have HSX : Hid (w5.heap[gS]? = some (.cells CS 42 (0, 0))) := Lib.hid (by rw [(HB5.out).block _ (Array.getElem?_eq_some_iff.1 HS4.out).1]; exact HS4.out)
      have HBL : Hid (∀ k, Below w5.heap.size w5 (w5.drewN k)) := Lib.hid fun k => Kit.dn' _ k
      have hb6 : Below w5.heap.size w5 (w5.drew.alloc (.cells #[.int .u8 1] 5)) := (Kit.dn (Below.refl _ _) 1).alloc (Nat.le_refl _) _
      have HB6 := Lib.hid hb6
      have HO6 : Hid ((w5.drew.alloc (.cells #[.int .u8 1] 5)).ownsRow w5.heap.size 5 1 (.slice (some ⟨w5.heap.size, 0, none⟩) 1 1) 1 (bytesV [1])) := Lib.hid (World.ownsRow_lit w5.drew (bytesV [1]).toArray 1 (Nat.le_refl _) (by unfold maxLen; simp) rfl)
      have HX6 := Lib.hid (hx3.later hb6)
      have HSD : Hid (w5.drew.heap[gS]? = some (.cells CS 42 (0, 0))) := Lib.hid HSX.out
      have HS6 : Hid ((w5.drew.alloc (.cells #[.int .u8 1] 5)).heap[gS]? = some (.cells CS 42 (0, 0))) := Lib.hid (by rw [hb6.block _ (Array.getElem?_eq_some_iff.1 HSX.out).1]; exact HSX.out)
      have HRN := Lib.hid hrf
      clear hb5 hx1 hx2 hx3 hrf hrf2 hreg hb6 HRG
      go_wp2_with fail
      refine wp_region_any (by kernel_rfl) ?_
      change wpAny _ _ _ _ _ _ _ (World.drew _)
      refine wpAny_take (i := 0) (v := ?va1) rfl (by kernel_rfl) (by kernel_rfl) (by kernel_rfl) (fun _ _ _ h => h) (Or.inl ⟨by rfl, ?ha1⟩) ?ra1
      case ha1 => (intro w; (go_simp <;> with_reducible rfl))
      refine wpAny_take (i := 3) (v := ?va2) rfl (by kernel_rfl) (by kernel_rfl) (by kernel_rfl) (fun _ _ _ h => h) (Or.inl ⟨by rfl, ?ha2⟩) ?ra2
      case ha2 => (intro w; (go_simp <;> with_reducible rfl))
      refine wpAny_take (i := 5) (v := ?va3) rfl (by kernel_rfl) (by kernel_rfl) (by kernel_rfl) (fun _ _ _ h => h) (Or.inl ⟨by rfl, ?ha3⟩) ?ra3
      case ha3 => (intro w; (go_simp <;> with_reducible rfl))
      refine wpAny_take (i := 6) (v := ?va4) rfl (by kernel_rfl) (by kernel_rfl) (by kernel_rfl) (fun _ _ _ h => h) (Or.inl ⟨by rfl, ?ha4⟩) ?ra4
      case ha4 => (intro w; (go_simp <;> with_reducible rfl))
      refine wpAny_ready (rs := [1, 2]) (by kernel_rfl) (by simp) ?_
      refine AllReady.cons rfl (fun K hK => ?_) (AllReady.cons rfl (fun K hK => ?_) AllReady.nil)
      · rw [if_pos (by rfl)]
        refine wp_load_row 42 (.tmp 10) rfl gS rfl 42 CS (0, 0) _ HSD.out syn_under rfl HZ2.out (hK _ _ ?_)
        clear hK K
        refine wpAny_ready (rs := [2]) (by kernel_rfl) (by simp) ?_
        refine AllReady.cons rfl (fun K hK => ?_) AllReady.nil
        go_simp
        refine hK _ _ ?_
        clear hK K
        refine wpAny_ready (rs := [4]) (by kernel_rfl) (by simp) ?_
        refine AllReady.cons rfl (fun K hK => ?_) AllReady.nil
        rw [if_pos (by rfl)]
        refine wp_append_row (.tmp 50) (.tmp 51) rfl w5.heap.size _ 1 [1] rfl HO6.out o5 t c5 x rfl HX1.out.symm HX6.out (by omega) HB6.out.size fun v7 w7 hv7 hg7 => hK _ _ ?_
        clear hK K
        have hb7 := own_below (n := 0) HB6.out HO6.out hg7
        obtain ⟨g7, cap7, rfl, hg7', hbu7⟩ := own_buf hv7 (by omega) (by simp [HX1.out] <;> omega)
        have hs7 : w7.heap[gS]? = some (.cells CS 42 (0, 0)) := by rw [hb7.block _ (Array.getElem?_eq_some_iff.1 HSX.out).1]; exact HSX.out
        have HS7 := Lib.hid hs7
        have HB7 := Lib.hid hb7
        have hlen7 : ([1] ++ x : List UInt8).length = t + 1 := by simp [HX1.out] <;> omega
        have HT7 := Lib.hid (HTD.out w7 (some ⟨g7, 0, none⟩) cap7 hb7 hbu7.row)
        rw [hlen7]
        clear hv7 hg7 hb7 hg7' hbu7 hs7 hlen7
        refine wpAny_ready (rs := [7]) (by kernel_rfl) (by simp) ?_
        refine AllReady.cons rfl (fun K hK => ?_) AllReady.nil
        go_simp
        refine HT7.out.mono ?_; rintro e w8 ⟨hb8, ⟨hf, rfl⟩ | ⟨hf, l, v1, v2, hl1, hl2, rfl, hr1, hi2⟩⟩
        · have HNC := Lib.hid (HNOC.out hf)
          have HB8 := Lib.hid (Kit.step (Kit.step (Kit.step HB4.out HB5.out) HB7.out) hb8)
          clear hb8 hf HT7
          refine hK _ _ ?_
          clear hK K
          refine wpAny_ready (rs := [8]) (by kernel_rfl) (by simp) ?_
          refine AllReady.cons rfl (fun K hK => ?_) AllReady.nil
          go_simp
          refine hK _ _ ?_
          clear hK K
          refine wpAny_take (i := 9) (v := ?va5) rfl (by kernel_rfl) (by kernel_rfl) (by kernel_rfl) (fun _ _ _ h => h) (Or.inl ⟨by rfl, ?ha5⟩) ?ra5
          case ha5 => (intro w; (go_simp <;> with_reducible rfl))
          refine wpAny_take (i := 10) (v := ?va6) rfl (by kernel_rfl) (by kernel_rfl) (by kernel_rfl) (fun _ _ _ h => h) (Or.inl ⟨by rfl, ?ha6⟩) ?ra6
          case ha6 => (intro w; (go_simp <;> with_reducible rfl))
          refine wpAny_take (i := 11) (v := ?va7) rfl (by kernel_rfl) (by kernel_rfl) (by kernel_rfl) (fun _ _ _ h => h) (Or.inl ⟨by rfl, ?ha7⟩) ?ra7
          case ha7 => (intro w; (go_simp <;> with_reducible rfl))
          refine wpAny_ready (rs := [12]) (by kernel_rfl) (by simp) ?_
          refine AllReady.cons rfl (fun K hK => ?_) AllReady.nil
          go_simp
          refine hK _ _ ?_
          clear hK K
          refine wpAny_ready (rs := [13]) (by kernel_rfl) (by simp) ?_
          refine AllReady.cons rfl (fun K hK => ?_) AllReady.nil
          go_simp
          refine hK _ _ ?_
          clear hK K
          refine wpAny_ready (rs := [14]) (by kernel_rfl) (by simp) ?_
          refine AllReady.cons rfl (fun K hK => ?_) AllReady.nil
          go_simp
          refine hK _ _ ?_
          clear hK K
          refine wpAny_done (by kernel_rfl) ?_ _
          go_wp2_with fail
          refine bodyPost_ret (results_tmp4 rfl _ _ _) rfl ?_
          exact ⟨HB8.out, .inl ⟨HNC.out, rfl⟩⟩
        · have hreg := HREG.out hf
          have hch := hreg.chg (al_all (R := 1 :: x) HOK.out) l hl1 hl2
          have HCH := Lib.hid hch
          have HF := Lib.hid hf
          have HB8 := Lib.hid (Kit.step (Kit.step (Kit.step HB4.out HB5.out) HB7.out) hb8)
          have HR1 := Lib.hid hr1
          have HI2 := Lib.hid hi2
          obtain ⟨oa, ca, rfl, _⟩ := hr1
          obtain ⟨ob, cb, rfl, _⟩ := hi2
          clear hb8 hf HT7 hreg hch hl1 hl2
          refine hK _ _ ?_
          clear hK K
          refine wpAny_ready (rs := [8]) (by kernel_rfl) (by simp) ?_
          refine AllReady.cons rfl (fun K hK => ?_) AllReady.nil
          go_simp
          refine hK _ _ ?_
          clear hK K
          refine wpAny_take (i := 9) (v := ?va8) rfl (by kernel_rfl) (by kernel_rfl) (by kernel_rfl) (fun _ _ _ h => h) (Or.inl ⟨by rfl, ?ha8⟩) ?ra8
          case ha8 => (intro w; (go_simp <;> with_reducible rfl))
          refine wpAny_take (i := 10) (v := ?va9) rfl (by kernel_rfl) (by kernel_rfl) (by kernel_rfl) (fun _ _ _ h => h) (Or.inl ⟨by rfl, ?ha9⟩) ?ra9
          case ha9 => (intro w; (go_simp <;> with_reducible rfl))
          refine wpAny_take (i := 11) (v := ?va10) rfl (by kernel_rfl) (by kernel_rfl) (by kernel_rfl) (fun _ _ _ h => h) (Or.inl ⟨by rfl, ?ha10⟩) ?ra10
          case ha10 => (intro w; (go_simp <;> with_reducible rfl))
          refine wpAny_ready (rs := [12]) (by kernel_rfl) (by simp) ?_
          refine AllReady.cons rfl (fun K hK => ?_) AllReady.nil
          go_simp
          refine hK _ _ ?_
          clear hK K
          refine wpAny_ready (rs := [13]) (by kernel_rfl) (by simp) ?_
          refine AllReady.cons rfl (fun K hK => ?_) AllReady.nil
          go_simp
          refine hK _ _ ?_
          clear hK K
          refine wpAny_ready (rs := [14]) (by kernel_rfl) (by simp) ?_
          refine AllReady.cons rfl (fun K hK => ?_) AllReady.nil
          go_simp
          refine hK _ _ ?_
          clear hK K
          refine wpAny_done (by kernel_rfl) ?_ _
          go_wp2_with fail
          refine bodyPost_ret (results_tmp4 rfl _ _ _) rfl ?_
          refine ⟨HB8.out, .inr ⟨putW W l, fnd n z (1 :: x) n, .slice oa (putW W l).length ca, .slice ob (dfL (putW W l) W n).length cb, HCH.out, ?_, HR1.out, HI2.out⟩⟩
          rw [HF.out, putW_length]
          rfl
      · go_simp
        refine hK _ _ ?_
        clear hK K
        refine wpAny_ready (rs := [1, 4]) (by kernel_rfl) (by simp) ?_
        refine AllReady.cons rfl (fun K hK => ?_) (AllReady.cons rfl (fun K hK => ?_) AllReady.nil)
        · rw [if_pos (by rfl)]
          refine wp_load_row 42 (.tmp 10) rfl gS rfl 42 CS (0, 0) _ HS6.out syn_under rfl HZ2.out (hK _ _ ?_)
          clear hK K
          refine wpAny_ready (rs := [4]) (by kernel_rfl) (by simp) ?_
          refine AllReady.cons rfl (fun K hK => ?_) AllReady.nil
          rw [if_pos (by rfl)]
          refine wp_append_row (.tmp 50) (.tmp 51) rfl w5.heap.size _ 1 [1] rfl HO6.out o5 t c5 x rfl HX1.out.symm HX6.out (by omega) HB6.out.size fun v7 w7 hv7 hg7 => hK _ _ ?_
          clear hK K
          have hb7 := own_below (n := 0) HB6.out HO6.out hg7
          obtain ⟨g7, cap7, rfl, hg7', hbu7⟩ := own_buf hv7 (by omega) (by simp [HX1.out] <;> omega)
          have hs7 : w7.heap[gS]? = some (.cells CS 42 (0, 0)) := by rw [hb7.block _ (Array.getElem?_eq_some_iff.1 HSX.out).1]; exact HSX.out
          have HS7 := Lib.hid hs7
          have HB7 := Lib.hid hb7
          have hlen7 : ([1] ++ x : List UInt8).length = t + 1 := by simp [HX1.out] <;> omega
          have HT7 := Lib.hid (HTD.out w7 (some ⟨g7, 0, none⟩) cap7 hb7 hbu7.row)
          rw [hlen7]
          clear hv7 hg7 hb7 hg7' hbu7 hs7 hlen7
          refine wpAny_ready (rs := [7]) (by kernel_rfl) (by simp) ?_
          refine AllReady.cons rfl (fun K hK => ?_) AllReady.nil
          go_simp
          refine HT7.out.mono ?_; rintro e w8 ⟨hb8, ⟨hf, rfl⟩ | ⟨hf, l, v1, v2, hl1, hl2, rfl, hr1, hi2⟩⟩
          · have HNC := Lib.hid (HNOC.out hf)
            have HB8 := Lib.hid (Kit.step (Kit.step (Kit.step HB4.out HB5.out) HB7.out) hb8)
            clear hb8 hf HT7
            refine hK _ _ ?_
            clear hK K
            refine wpAny_ready (rs := [8]) (by kernel_rfl) (by simp) ?_
            refine AllReady.cons rfl (fun K hK => ?_) AllReady.nil
            go_simp
            refine hK _ _ ?_
            clear hK K
            refine wpAny_take (i := 9) (v := ?va11) rfl (by kernel_rfl) (by kernel_rfl) (by kernel_rfl) (fun _ _ _ h => h) (Or.inl ⟨by rfl, ?ha11⟩) ?ra11
            case ha11 => (intro w; (go_simp <;> with_reducible rfl))
            refine wpAny_take (i := 10) (v := ?va12) rfl (by kernel_rfl) (by kernel_rfl) (by kernel_rfl) (fun _ _ _ h => h) (Or.inl ⟨by rfl, ?ha12⟩) ?ra12
            case ha12 => (intro w; (go_simp <;> with_reducible rfl))
            refine wpAny_take (i := 11) (v := ?va13) rfl (by kernel_rfl) (by kernel_rfl) (by kernel_rfl) (fun _ _ _ h => h) (Or.inl ⟨by rfl, ?ha13⟩) ?ra13
            case ha13 => (intro w; (go_simp <;> with_reducible rfl))
            refine wpAny_ready (rs := [12]) (by kernel_rfl) (by simp) ?_
            refine AllReady.cons rfl (fun K hK => ?_) AllReady.nil
            go_simp
            refine hK _ _ ?_
            clear hK K
            refine wpAny_ready (rs := [13]) (by kernel_rfl) (by simp) ?_
            refine AllReady.cons rfl (fun K hK => ?_) AllReady.nil
            go_simp
            refine hK _ _ ?_
            clear hK K
            refine wpAny_ready (rs := [14]) (by kernel_rfl) (by simp) ?_
            refine AllReady.cons rfl (fun K hK => ?_) AllReady.nil
            go_simp
            refine hK _ _ ?_
            clear hK K
            refine wpAny_done (by kernel_rfl) ?_ _
            go_wp2_with fail
            refine bodyPost_ret (results_tmp4 rfl _ _ _) rfl ?_
            exact ⟨HB8.out, .inl ⟨HNC.out, rfl⟩⟩
          · have hreg := HREG.out hf
            have hch := hreg.chg (al_all (R := 1 :: x) HOK.out) l hl1 hl2
            have HCH := Lib.hid hch
            have HF := Lib.hid hf
            have HB8 := Lib.hid (Kit.step (Kit.step (Kit.step HB4.out HB5.out) HB7.out) hb8)
            have HR1 := Lib.hid hr1
            have HI2 := Lib.hid hi2
            obtain ⟨oa, ca, rfl, _⟩ := hr1
            obtain ⟨ob, cb, rfl, _⟩ := hi2
            clear hb8 hf HT7 hreg hch hl1 hl2
            refine hK _ _ ?_
            clear hK K
            refine wpAny_ready (rs := [8]) (by kernel_rfl) (by simp) ?_
            refine AllReady.cons rfl (fun K hK => ?_) AllReady.nil
            go_simp
            refine hK _ _ ?_
            clear hK K
            refine wpAny_take (i := 9) (v := ?va14) rfl (by kernel_rfl) (by kernel_rfl) (by kernel_rfl) (fun _ _ _ h => h) (Or.inl ⟨by rfl, ?ha14⟩) ?ra14
            case ha14 => (intro w; (go_simp <;> with_reducible rfl))
            refine wpAny_take (i := 10) (v := ?va15) rfl (by kernel_rfl) (by kernel_rfl) (by kernel_rfl) (fun _ _ _ h => h) (Or.inl ⟨by rfl, ?ha15⟩) ?ra15
            case ha15 => (intro w; (go_simp <;> with_reducible rfl))
            refine wpAny_take (i := 11) (v := ?va16) rfl (by kernel_rfl) (by kernel_rfl) (by kernel_rfl) (fun _ _ _ h => h) (Or.inl ⟨by rfl, ?ha16⟩) ?ra16
            case ha16 => (intro w; (go_simp <;> with_reducible rfl))
            refine wpAny_ready (rs := [12]) (by kernel_rfl) (by simp) ?_
            refine AllReady.cons rfl (fun K hK => ?_) AllReady.nil
            go_simp
            refine hK _ _ ?_
            clear hK K
            refine wpAny_ready (rs := [13]) (by kernel_rfl) (by simp) ?_
            refine AllReady.cons rfl (fun K hK => ?_) AllReady.nil
            go_simp
            refine hK _ _ ?_
            clear hK K
            refine wpAny_ready (rs := [14]) (by kernel_rfl) (by simp) ?_
            refine AllReady.cons rfl (fun K hK => ?_) AllReady.nil
            go_simp
            refine hK _ _ ?_
            clear hK K
            refine wpAny_done (by kernel_rfl) ?_ _
            go_wp2_with fail
            refine bodyPost_ret (results_tmp4 rfl _ _ _) rfl ?_
            refine ⟨HB8.out, .inr ⟨putW W l, fnd n z (1 :: x) n, .slice oa (putW W l).length ca, .slice ob (dfL (putW W l) W n).length cb, HCH.out, ?_, HR1.out, HI2.out⟩⟩
            rw [HF.out, putW_length]
            rfl
        · rw [if_pos (by rfl)]
          refine wp_append_row (.tmp 50) (.tmp 51) rfl w5.heap.size _ 1 [1] rfl HO6.out o5 t c5 x rfl HX1.out.symm HX6.out (by omega) HB6.out.size fun v7 w7 hv7 hg7 => hK _ _ ?_
          clear hK K
          have hb7 := own_below (n := 0) HB6.out HO6.out hg7
          obtain ⟨g7, cap7, rfl, hg7', hbu7⟩ := own_buf hv7 (by omega) (by simp [HX1.out] <;> omega)
          have hs7 : w7.heap[gS]? = some (.cells CS 42 (0, 0)) := by rw [hb7.block _ (Array.getElem?_eq_some_iff.1 HSX.out).1]; exact HSX.out
          have HS7 := Lib.hid hs7
          have HB7 := Lib.hid hb7
          have hlen7 : ([1] ++ x : List UInt8).length = t + 1 := by simp [HX1.out] <;> omega
          have HT7 := Lib.hid (HTD.out w7 (some ⟨g7, 0, none⟩) cap7 hb7 hbu7.row)
          rw [hlen7]
          clear hv7 hg7 hb7 hg7' hbu7 hs7 hlen7
          refine wpAny_ready (rs := [1]) (by kernel_rfl) (by simp) ?_
          refine AllReady.cons rfl (fun K hK => ?_) AllReady.nil
          rw [if_pos (by rfl)]
          refine wp_load_row 42 (.tmp 10) rfl gS rfl 42 CS (0, 0) _ HS7.out syn_under rfl HZ2.out (hK _ _ ?_)
          clear hK K
          refine wpAny_ready (rs := [7]) (by kernel_rfl) (by simp) ?_
          refine AllReady.cons rfl (fun K hK => ?_) AllReady.nil
          go_simp
          refine HT7.out.mono ?_; rintro e w8 ⟨hb8, ⟨hf, rfl⟩ | ⟨hf, l, v1, v2, hl1, hl2, rfl, hr1, hi2⟩⟩
          · have HNC := Lib.hid (HNOC.out hf)
            have HB8 := Lib.hid (Kit.step (Kit.step (Kit.step HB4.out HB5.out) HB7.out) hb8)
            clear hb8 hf HT7
            refine hK _ _ ?_
            clear hK K
            refine wpAny_ready (rs := [8]) (by kernel_rfl) (by simp) ?_
            refine AllReady.cons rfl (fun K hK => ?_) AllReady.nil
            go_simp
            refine hK _ _ ?_
            clear hK K
            refine wpAny_take (i := 9) (v := ?va17) rfl (by kernel_rfl) (by kernel_rfl) (by kernel_rfl) (fun _ _ _ h => h) (Or.inl ⟨by rfl, ?ha17⟩) ?ra17
            case ha17 => (intro w; (go_simp <;> with_reducible rfl))
            refine wpAny_take (i := 10) (v := ?va18) rfl (by kernel_rfl) (by kernel_rfl) (by kernel_rfl) (fun _ _ _ h => h) (Or.inl ⟨by rfl, ?ha18⟩) ?ra18
            case ha18 => (intro w; (go_simp <;> with_reducible rfl))
            refine wpAny_take (i := 11) (v := ?va19) rfl (by kernel_rfl) (by kernel_rfl) (by kernel_rfl) (fun _ _ _ h => h) (Or.inl ⟨by rfl, ?ha19⟩) ?ra19
            case ha19 => (intro w; (go_simp <;> with_reducible rfl))
            refine wpAny_ready (rs := [12]) (by kernel_rfl) (by simp) ?_
            refine AllReady.cons rfl (fun K hK => ?_) AllReady.nil
            go_simp
            refine hK _ _ ?_
            clear hK K
            refine wpAny_ready (rs := [13]) (by kernel_rfl) (by simp) ?_
            refine AllReady.cons rfl (fun K hK => ?_) AllReady.nil
            go_simp
            refine hK _ _ ?_
            clear hK K
            refine wpAny_ready (rs := [14]) (by kernel_rfl) (by simp) ?_
            refine AllReady.cons rfl (fun K hK => ?_) AllReady.nil
            go_simp
            refine hK _ _ ?_
            clear hK K
            refine wpAny_done (by kernel_rfl) ?_ _
            go_wp2_with fail
            refine bodyPost_ret (results_tmp4 rfl _ _ _) rfl ?_
            exact ⟨HB8.out, .inl ⟨HNC.out, rfl⟩⟩
          · have hreg := HREG.out hf
            have hch := hreg.chg (al_all (R := 1 :: x) HOK.out) l hl1 hl2
            have HCH := Lib.hid hch
            have HF := Lib.hid hf
            have HB8 := Lib.hid (Kit.step (Kit.step (Kit.step HB4.out HB5.out) HB7.out) hb8)
            have HR1 := Lib.hid hr1
            have HI2 := Lib.hid hi2
            obtain ⟨oa, ca, rfl, _⟩ := hr1
            obtain ⟨ob, cb, rfl, _⟩ := hi2
            clear hb8 hf HT7 hreg hch hl1 hl2
            refine hK _ _ ?_
            clear hK K
            refine wpAny_ready (rs := [8]) (by kernel_rfl) (by simp) ?_
            refine AllReady.cons rfl (fun K hK => ?_) AllReady.nil
            go_simp
            refine hK _ _ ?_
            clear hK K
            refine wpAny_take (i := 9) (v := ?va20) rfl (by kernel_rfl) (by kernel_rfl) (by kernel_rfl) (fun _ _ _ h => h) (Or.inl ⟨by rfl, ?ha20⟩) ?ra20
            case ha20 => (intro w; (go_simp <;> with_reducible rfl))
            refine wpAny_take (i := 10) (v := ?va21) rfl (by kernel_rfl) (by kernel_rfl) (by kernel_rfl) (fun _ _ _ h => h) (Or.inl ⟨by rfl, ?ha21⟩) ?ra21
            case ha21 => (intro w; (go_simp <;> with_reducible rfl))
            refine wpAny_take (i := 11) (v := ?va22) rfl (by kernel_rfl) (by kernel_rfl) (by kernel_rfl) (fun _ _ _ h => h) (Or.inl ⟨by rfl, ?ha22⟩) ?ra22
            case ha22 => (intro w; (go_simp <;> with_reducible rfl))
            refine wpAny_ready (rs := [12]) (by kernel_rfl) (by simp) ?_
            refine AllReady.cons rfl (fun K hK => ?_) AllReady.nil
            go_simp
            refine hK _ _ ?_
            clear hK K
            refine wpAny_ready (rs := [13]) (by kernel_rfl) (by simp) ?_
            refine AllReady.cons rfl (fun K hK => ?_) AllReady.nil
            go_simp
            refine hK _ _ ?_
            clear hK K
            refine wpAny_ready (rs := [14]) (by kernel_rfl) (by simp) ?_
            refine AllReady.cons rfl (fun K hK => ?_) AllReady.nil
            go_simp
            refine hK _ _ ?_
            clear hK K
            refine wpAny_done (by kernel_rfl) ?_ _
            go_wp2_with fail
            refine bodyPost_ret (results_tmp4 rfl _ _ _) rfl ?_
            refine ⟨HB8.out, .inr ⟨putW W l, fnd n z (1 :: x) n, .slice oa (putW W l).length ca, .slice ob (dfL (putW W l) W n).length cb, HCH.out, ?_, HR1.out, HI2.out⟩⟩
            rw [HF.out, putW_length]
            rfl
    · have hd : decide (2 * (t : Int) ≤ (m : Int)) = false := decide_eq_false (by omega)
      have hd' : decide (2 * t ≤ m) = false := decide_eq_false h2t
      have hnc := HNO.out L cc HLEA.out HRUN.out (by rw [HML.out]; exact hLle) (by omega)
      have HNC := Lib.hid hnc
      have HBE := Lib.hid (Kit.step HB4.out hb)
      clear hb hnc
      go_wp2_with fail
      refine bodyPost_ret (results_tmp4 rfl _ _ _) rfl ?_
      exact ⟨HBE.out, .inl ⟨HNC.out, rfl⟩⟩
end Go.Proofs.YtgchfijeiggimaaGreatDoor
