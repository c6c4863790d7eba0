/- GrowthChain, walked. -/
import Derived.Test.YtfccpfmgkpcnoaaDoorWa14
import Derived.Test.YtfccpfmgkpcnoaaDoorRgd
namespace Go.Proofs.YtfccpfmgkpcnoaaDoor
open Go.RowKit
set_option linter.unusedVariables false
set_option linter.unusedSimpArgs false
theorem u64_mod14 (x : Int) (n : Nat) (h0 : 0 < n) (hn : n ≤ 1000) : ∃ j : Nat, j < n ∧ wrap64 (Int.tmod (IntKind.u64.wrap x) (n : Int)) = (j : Int) := by
  have hx : 0 ≤ IntKind.u64.wrap x := by rw [IntKind.wrap_u64]; omega
  obtain ⟨y, hy⟩ : ∃ y : Nat, IntKind.u64.wrap x = (y : Int) := ⟨(IntKind.u64.wrap x).toNat, by omega⟩
  rw [hy, ← Int.ofNat_tmod]
  have hlt := Nat.mod_lt y h0
  exact ⟨y % n, hlt, by unfold wrap64; omega⟩
def ChG (b off n c m k base : Nat) (R1 R2 R3 Z : Array Value) (i : Nat) (x : Value) (v : World) : Prop :=
  match i with
  | 0 => x = .slice (some ⟨b, off, none⟩) n c
  | 1 => x = .int .i64 (m : Int)
  | 2 => x = .slice (some ⟨b, off, none⟩) m c
  | 3 => x = .agg R1
  | 4 => x = .slice (some ⟨b, off, none⟩) n c
  | 5 => x = .int .i64 (k : Int)
  | 6 => x = .slice (some ⟨b, off, none⟩) k c
  | 7 => x = .agg R2
  | 8 => x = .slice (some ⟨b, off, none⟩) n c
  | 9 => x = .agg R3
  | 10 => ∃ p, x = .pointer (some ⟨p, 0, none⟩) ∧ base ≤ p ∧ v.heap[p]? = some (.cells Z 41 (0, 0))
  | 11 => ∃ p, x = .pointer (some ⟨p, 0, none⟩) ∧ base ≤ p ∧ v.heap[p]? = some (.cells Z 41 (0, 0))
  | 12 => ∃ p, x = .pointer (some ⟨p, 0, none⟩) ∧ base ≤ p ∧ v.heap[p]? = some (.cells Z 41 (0, 0))
  | _ => True
theorem ChG.later {b off n c m k base : Nat} {R1 R2 R3 Z : Array Value} (i : Nat) (x : Value) (v v' : World) (h : ChG b off n c m k base R1 R2 R3 Z i x v) (hb : Below v.heap.size v v') : ChG b off n c m k base R1 R2 R3 Z i x v' := by
  unfold ChG at h ⊢
  split at h
  all_goals first
    | exact h
    | (obtain ⟨p, e, hp, hh⟩ := h; exact ⟨p, e, hp, by rw [hb.block _ (Array.getElem?_eq_some_iff.1 hh).1]; exact hh⟩)
def ChI (FR : Rf.Blk → World → Value → Nat → List (List UInt8) → Prop) (ds : List (List UInt8)) (k : Nat) (v : Value) (w : World) (iv : Value) (wr : World) : Prop := ∃ (i : Nat) (O : Rf.Blk), iv = .int .i64 (i : Int) ∧ i ≤ k ∧ FR O wr v i (Da.pks (ds.take i)) ∧ (∀ q, O q → w.heap.size ≤ q) ∧ Below w.heap.size w wr
set_option maxRecDepth 100000 in
set_option maxHeartbeats 8000000 in
theorem wh14_of (Z : Array Value) (hZ : Z = (bytesV (List.replicate 32 0)).toArray) (hzs : ∀ w, Sem.run Tryd.prog (zeroValue 41) w = .ok (.agg Z) w)
    (A : Nat → Addr) (hC : GrC A) (FR : Rf.Blk → World → Value → Nat → List (List UInt8) → Prop) (hF : FrC A FR) (bs : List (List UInt8)) (o : Option Addr) (n c : Nat) (hn : bs.length = n) (am ak : Int) (w : World) (hR : RbIs w o bs c) (hV : Cds w) (hD : Rds w) (hE : E13 w A) :
    Calls Tryd.prog 8 #[.slice o n c, .int .i64 am, .int .i64 ak] w fun e w' => e = .returned (.bool true) ∧ Below w.heap.size w w' := by
  have hcl := hR.le.1
  have hca := hR.le.2
  rw [hn] at hcl
  unfold maxLen at hca
  have HAL := Lib.hid (hC.alive w hV hD)
  have HR := Lib.hid hR
  have HV := Lib.hid hV
  have HD := Lib.hid hD
  have HE := Lib.hid hE
  have HN := Lib.hid hn
  have HF := Lib.hid hF
  have HC := Lib.hid hC
  have HZ := Lib.hid hZ
  have hnn := neq_nil13
  have hen := eql_nil13
  clear hR hV hD hn hC hF hE hZ
  go_enter Tryd.func8, Tryd.ntmps8
  go_wp2_with fail
  refine HAL.out.mono ?_
  rintro e W1 ⟨rfl, hb1⟩
  have LG := long_any bs o n c HN.out 40 (by omega) W1 (HR.out.later hb1)
  have HB1 := Lib.hid hb1
  clear HAL hb1
  by_cases hlg : Da.lng bs 40 = true
  · rw [hlg] at LG
    have HLG := Lib.hid LG
    clear LG hlg
    go_wp2_with fail
    refine HLG.out.mono ?_
    rintro e W2 ⟨rfl, rfl⟩
    go_wp2_with fail
    go_ret
    exact ⟨rfl, HB1.out⟩
  have hlg2 : Da.lng bs 40 = false := by simpa using hlg
  obtain ⟨hl40, hl200⟩ := Da.lng_not hlg2
  rw [hlg2] at LG
  rw [HN.out] at hl40
  have HLG := Lib.hid LG
  have HL2 := Lib.hid hl200
  clear LG hlg hlg2 hl200
  by_cases hn0 : n = 0
  · subst hn0
    go_wp2_with fail
    refine HLG.out.mono ?_
    rintro e W2 ⟨rfl, rfl⟩
    go_wp2_with fail
    go_ret
    exact ⟨rfl, HB1.out⟩
  have hq0 : ((n : Int) == (0 : Int)) = false := by simp; omega
  have hdq0 : decide ((n : Int) = (0 : Int)) = false := by simp; omega
  have hdq1 : decide (n = 0) = false := by simp; omega
  obtain ⟨j, hj, hjx⟩ := u64_mod14 ak n (by omega) (by omega)
  obtain ⟨k, hk⟩ : ∃ k, 1 + j = k := ⟨_, rfl⟩
  have hkw : IntKind.i64.wrap (1 + (j : Int)) = (k : Int) := by rw [IntKind.wrap_i64]; omega
  obtain ⟨i, hi, hix⟩ := u64_mod14 am k (by omega) (by omega)
  obtain ⟨m, hm⟩ : ∃ m, 1 + i = m := ⟨_, rfl⟩
  have hmw : IntKind.i64.wrap (1 + (i : Int)) = (m : Int) := by rw [IntKind.wrap_i64]; omega
  have hm1 : 1 ≤ m := by omega
  have hmk : m ≤ k := by omega
  have hkn : k ≤ n := by omega
  have hk1 : 1 ≤ k := by omega
  have HJ := Lib.hid (show 1 + j = k ∧ j < n ∧ 1 + i = m ∧ i < k ∧ n ≠ 0 from ⟨hk, hj, hm, hi, hn0⟩)
  clear hk hj hm hi hn0
  have TL := tleaves_any bs o n c HN.out W1 (HR.out.later HB1.out) (HV.out.later HB1.out) (by have := HN.out; omega) (Da.len_of HL2.out 800000 (by omega))
  have HTL := Lib.hid TL
  clear TL
  go_wp2_with fail
  refine HLG.out.mono ?_
  rintro e W2 ⟨rfl, rfl⟩
  rename World => W1
  clear HLG
  go_wp2_with fail
  refine HTL.out.mono ?_
  rintro e V2 ⟨o2, c2, rfl, hdg2, hb2⟩
  obtain ⟨ds, hds⟩ : ∃ ds, bs.map Da.lf = ds := ⟨_, rfl⟩
  rw [hds] at hdg2
  have hdn : ds.length = n := by rw [← hds, List.length_map]; exact HN.out
  have hqn : ((n : Int) != (n : Int)) = false := by simp
  have HB2 := Lib.hid (Kit.step HB1.out hb2)
  have HDG2 := Lib.hid hdg2
  have HDS := Lib.hid (And.intro hds hdn)
  have hR2 := HR.out.later (Kit.step HB1.out hb2)
  obtain ⟨b0, f0, pl0, ql0, rfl, hlb0, _, _⟩ := hR2.cell 0 (by have := HN.out; omega)
  have hmc : m ≤ c := by omega
  have hkc : k ≤ c := by omega
  have hll := Da.len_of HL2.out 800000 (by omega)
  have tk : ∀ q, q ≤ n → ∀ i, i < (bs.take q).length → (bi (bs.take q) i).length ≤ 800000 := fun q hq i hi => by
    have hi2 : i < bs.length := by rw [List.length_take] at hi; omega
    have hbi : bi (bs.take q) i = bi bs i := by
      unfold bi
      rw [List.getD_eq_getElem?_getD, List.getD_eq_getElem?_getD, List.getElem?_take_of_lt (by rw [List.length_take] at hi; omega)]
    rw [hbi]
    exact hll i hi2
  have mt : ∀ q, Da.mth (bs.take q) = Da.ov (ds.take q) := fun q => by unfold Da.mth; rw [List.map_take, hds]
  have TT : ∀ q, q ≤ n → ∀ W, Below V2.heap.size V2 W → Calls Tryd.prog 31 #[.slice (some ⟨b0, f0, none⟩) q c] W fun e w' => e = .returned (.agg (bytesV (Da.ov (ds.take q))).toArray) ∧ Below W.heap.size W w' := fun q hq W hW => by
    have := troot_any (bs.take q) (some ⟨b0, f0, none⟩) q c (by rw [List.length_take, HN.out]; omega) W (RbIs.take14 (hR2.later hW) q (by rw [HN.out]; exact hq)) ((HV.out.later HB2.out).later hW) (by rw [List.length_take]; omega) (tk q hq)
    rw [mt] at this
    exact this
  have hda : Da.all32 ds := HDG2.out.all
  have l1 := Da.ov_length (l := ds.take m) (hda.take m)
  have l2 := Da.ov_length (l := ds.take k) (hda.take k)
  have l3 := Da.ov_length (l := ds) hda
  have hdsn : ds.take n = ds := List.take_of_length_le (by omega)
  have T1 := TT m (by omega)
  have T2 := TT k (by omega)
  have T3 := TT n (Nat.le_refl _)
  rw [hdsn] at T3
  obtain ⟨x1, hx1⟩ : ∃ x, Da.ov (ds.take m) = x := ⟨_, rfl⟩
  obtain ⟨x2, hx2⟩ : ∃ x, Da.ov (ds.take k) = x := ⟨_, rfl⟩
  obtain ⟨x3, hx3⟩ : ∃ x, Da.ov ds = x := ⟨_, rfl⟩
  rw [hx1] at T1 l1
  rw [hx2] at T2 l2
  rw [hx3] at T3 l3
  obtain ⟨R1, hR1⟩ : ∃ R, (bytesV x1).toArray = R := ⟨_, rfl⟩
  obtain ⟨R2, hR2'⟩ : ∃ R, (bytesV x2).toArray = R := ⟨_, rfl⟩
  obtain ⟨R3, hR3⟩ : ∃ R, (bytesV x3).toArray = R := ⟨_, rfl⟩
  simp only [hR1] at T1
  simp only [hR2'] at T2
  simp only [hR3] at T3
  have H1S : Hid ((Tryd.prog.info? 41).map (·.size) = some R1.size) := Lib.hid (by rw [dg_info, ← hR1]; simp [l1])
  have H1O : Hid (R1.all (·.oneCell') = true) := Lib.hid (by rw [← hR1]; exact all_oneCell_toArray (bytesV_one _))
  have H1Z : Hid (Z.size = R1.size) := Lib.hid (by rw [HZ.out, ← hR1]; simp [l1])
  have H2S : Hid ((Tryd.prog.info? 41).map (·.size) = some R2.size) := Lib.hid (by rw [dg_info, ← hR2']; simp [l2])
  have H2O : Hid (R2.all (·.oneCell') = true) := Lib.hid (by rw [← hR2']; exact all_oneCell_toArray (bytesV_one _))
  have H2Z : Hid (Z.size = R2.size) := Lib.hid (by rw [HZ.out, ← hR2']; simp [l2])
  have H3S : Hid ((Tryd.prog.info? 41).map (·.size) = some R3.size) := Lib.hid (by rw [dg_info, ← hR3]; simp [l3])
  have H3O : Hid (R3.all (·.oneCell') = true) := Lib.hid (by rw [← hR3]; exact all_oneCell_toArray (bytesV_one _))
  have H3Z : Hid (Z.size = R3.size) := Lib.hid (by rw [HZ.out, ← hR3]; simp [l3])
  have HT1 := Lib.hid T1
  have HT2 := Lib.hid T2
  have HT3 := Lib.hid T3
  have HXX := Lib.hid (show x1.length = 32 ∧ x2.length = 32 ∧ x3.length = 32 ∧ (bytesV x1).toArray = R1 ∧ (bytesV x2).toArray = R2 ∧ (bytesV x3).toArray = R3 ∧ Da.ov (ds.take m) = x1 ∧ Da.ov (ds.take k) = x2 ∧ Da.ov ds = x3 from ⟨l1, l2, l3, hR1, hR2', hR3, hx1, hx2, hx3⟩)
  clear hdg2 hb2 HTL hds hdn hR2 hlb0 hll tk mt TT hda l1 l2 l3 hdsn T1 T2 T3 hx1 hx2 hx3 hR1 hR2' hR3 hjx hkw hix hmw
  go_upto_region 11 with fail
  -- STOP2
  refine Code.wp_mono (Q := fun e b' v => e = .normal ∧ ∃ (px py pz : Nat) (f : Nat → Value), V2.heap.size ≤ px ∧ V2.heap.size ≤ py ∧ V2.heap.size ≤ pz ∧ v.heap[px]? = some (.cells R1 41 (0, 0)) ∧ v.heap[py]? = some (.cells R2 41 (0, 0)) ∧ v.heap[pz]? = some (.cells R3 41 (0, 0)) ∧ Below V2.heap.size V2 v ∧ b' = { tmps := #[.slice (some ⟨b0, f0, none⟩) n c, .int .i64 (m : Int), .int .i64 (k : Int), f 3, f 4, f 5, .bool false, .int .i64 (n : Int), .slice o2 n c2, .pointer (some ⟨px, 0, none⟩), .pointer (some ⟨py, 0, none⟩), .pointer (some ⟨pz, 0, none⟩), f 12, f 13, f 14, f 15, f 16, f 17, f 18, f 19, f 20, f 21, f 22, f 23, f 24, f 25, f 26, f 27, f 28, f 29, f 30, f 31, f 32, f 33, f 34, f 35, f 36, f 37, f 38, f 39, f 40, f 41, f 42, f 43, f 44, f 45, f 46, f 47, f 48, f 49, f 50, f 51, f 52, f 53, f 54, f 55, f 56, f 57, f 58, f 59, f 60, f 61, f 62, f 63, f 64, f 65, f 66, f 67, f 68, f 69, f 70, f 71, f 72, f 73, f 74, f 75, f 76, f 77, f 78, f 79, f 80, f 81, f 82, f 83, f 84, f 85, f 86, f 87, f 88, f 89, f 90, f 91, f 92, f 93, f 94, f 95, f 96, f 97, f 98, f 99, f 100, f 101, f 102, f 103, f 104, f 105, f 106, f 107, f 108, f 109, f 110, f 111, f 112, f 113, f 114, f 115, f 116, f 117, f 118, f 119, f 120, f 121, f 122, f 123, f 124, f 125, f 126, f 127, f 128, f 129, f 130, f 131, f 132, f 133, f 134, f 135, f 136], defers := [] }) ?rest ?reg
  case reg =>
    refine Rg.region_toD (by kernel_rfl) (fun i => decide (i < 13)) (fun i => decide (i = 10) || decide (i = 11) || decide (i = 12)) (ChG b0 f0 n c m k V2.heap.size R1 R2 R3 Z) (by kernel_rfl) ChG.later ?step ?fin
    case step =>
      intro i op b' v hE ho hb hrest hdep
      have hi := (Array.getElem?_eq_some_iff.1 ho).1
      have r0 : b'.eval (.tmp 0) = .slice (some ⟨b0, f0, none⟩) n c := hrest 0 (Rg.freeOf_spec (by kernel_rfl))
      have r1 : b'.eval (.tmp 1) = .int .i64 (m : Int) := hrest 1 (Rg.freeOf_spec (by kernel_rfl))
      have r2 : b'.eval (.tmp 2) = .int .i64 (k : Int) := hrest 2 (Rg.freeOf_spec (by kernel_rfl))
      match i, hi with
      | 0, _ =>
        obtain rfl := Option.some.inj ho
        exact Rg.DoesD.of rfl (Rg.does_move rfl r0)
      | 1, _ =>
        obtain rfl := Option.some.inj ho
        exact Rg.DoesD.of rfl (Rg.does_move rfl r1)
      | 2, _ =>
        obtain rfl := Option.some.inj ho
        have d1 : b'.eval (.tmp 52) = .slice (some ⟨b0, f0, none⟩) n c := hdep ⟨0, .data⟩ (by simp) rfl rfl _ _ rfl rfl
        have d2 : b'.eval (.tmp 53) = .int .i64 (m : Int) := hdep ⟨1, .data⟩ (by simp) rfl rfl _ _ rfl rfl
        have f1 : b'.tmps[52]?.getD undef = _ := (show _ = b'.eval (.tmp 52) by simp [Act.eval]).trans d1
        have f2 : b'.tmps[53]?.getD undef = _ := (show _ = b'.eval (.tmp 53) by simp [Act.eval]).trans d2
        refine Rg.DoesD.of rfl (Rg.does_pure (.slice (some ⟨b0, f0, none⟩) m c) ?_ rfl)
        simp only [execOp]
        go_simp
      | 3, _ =>
        obtain rfl := Option.some.inj ho
        have d1 : b'.eval (.tmp 54) = .slice (some ⟨b0, f0, none⟩) m c := hdep ⟨2, .data⟩ (by simp) rfl rfl _ _ rfl rfl
        have hk := HT1.out v hb
        rw [← d1] at hk
        exact Rg.DoesD.of rfl (Rg.does_fn rfl (enters_of Tryd.func31 (by kernel_rfl) rfl) (args := #[b'.eval (.tmp 54)]) (by simp) (hk.mono fun e v' h => ⟨_, h.1, rfl, h.2⟩))
      | 4, _ =>
        obtain rfl := Option.some.inj ho
        exact Rg.DoesD.of rfl (Rg.does_move rfl r0)
      | 5, _ =>
        obtain rfl := Option.some.inj ho
        exact Rg.DoesD.of rfl (Rg.does_move rfl r2)
      | 6, _ =>
        obtain rfl := Option.some.inj ho
        have d1 : b'.eval (.tmp 56) = .slice (some ⟨b0, f0, none⟩) n c := hdep ⟨4, .data⟩ (by simp) rfl rfl _ _ rfl rfl
        have d2 : b'.eval (.tmp 57) = .int .i64 (k : Int) := hdep ⟨5, .data⟩ (by simp) rfl rfl _ _ rfl rfl
        have f1 : b'.tmps[56]?.getD undef = _ := (show _ = b'.eval (.tmp 56) by simp [Act.eval]).trans d1
        have f2 : b'.tmps[57]?.getD undef = _ := (show _ = b'.eval (.tmp 57) by simp [Act.eval]).trans d2
        refine Rg.DoesD.of rfl (Rg.does_pure (.slice (some ⟨b0, f0, none⟩) k c) ?_ rfl)
        simp only [execOp]
        go_simp
      | 7, _ =>
        obtain rfl := Option.some.inj ho
        have d1 : b'.eval (.tmp 58) = .slice (some ⟨b0, f0, none⟩) k c := hdep ⟨6, .data⟩ (by simp) rfl rfl _ _ rfl rfl
        have hk := HT2.out v hb
        rw [← d1] at hk
        exact Rg.DoesD.of rfl (Rg.does_fn rfl (enters_of Tryd.func31 (by kernel_rfl) rfl) (args := #[b'.eval (.tmp 58)]) (by simp) (hk.mono fun e v' h => ⟨_, h.1, rfl, h.2⟩))
      | 8, _ =>
        obtain rfl := Option.some.inj ho
        exact Rg.DoesD.of rfl (Rg.does_move rfl r0)
      | 9, _ =>
        obtain rfl := Option.some.inj ho
        have d1 : b'.eval (.tmp 60) = .slice (some ⟨b0, f0, none⟩) n c := hdep ⟨8, .data⟩ (by simp) rfl rfl _ _ rfl rfl
        have hk := HT3.out v hb
        rw [← d1] at hk
        exact Rg.DoesD.of rfl (Rg.does_fn rfl (enters_of Tryd.func31 (by kernel_rfl) rfl) (args := #[b'.eval (.tmp 60)]) (by simp) (hk.mono fun e v' h => ⟨_, h.1, rfl, h.2⟩))
      | 10, _ =>
        obtain rfl := Option.some.inj ho
        refine Rg.does_newD (v' := v.alloc (.cells Z 41)) (.pointer (some ⟨v.heap.size, 0, none⟩)) ?_ ⟨_, rfl, hb.size, World.alloc_heap_new _ _⟩ ((Below.refl _ _).alloc (Nat.le_refl _) _) ?_
        · simp only [execOp]
          go_simp
        · intro j y hj hG e
          have hj2 : j = 10 ∨ j = 11 ∨ j = 12 := by simpa [or_assoc] using hj
          rcases hj2 with rfl | rfl | rfl
          all_goals
            obtain ⟨p, e1, _, hh⟩ := hG
            rw [e1] at e
            injection e with e
            injection e with e
            injection e with e
            have := (Array.getElem?_eq_some_iff.1 hh).1
            omega
      | 11, _ =>
        obtain rfl := Option.some.inj ho
        refine Rg.does_newD (v' := v.alloc (.cells Z 41)) (.pointer (some ⟨v.heap.size, 0, none⟩)) ?_ ⟨_, rfl, hb.size, World.alloc_heap_new _ _⟩ ((Below.refl _ _).alloc (Nat.le_refl _) _) ?_
        · simp only [execOp]
          go_simp
        · intro j y hj hG e
          have hj2 : j = 10 ∨ j = 11 ∨ j = 12 := by simpa [or_assoc] using hj
          rcases hj2 with rfl | rfl | rfl
          all_goals
            obtain ⟨p, e1, _, hh⟩ := hG
            rw [e1] at e
            injection e with e
            injection e with e
            injection e with e
            have := (Array.getElem?_eq_some_iff.1 hh).1
            omega
      | 12, _ =>
        obtain rfl := Option.some.inj ho
        refine Rg.does_newD (v' := v.alloc (.cells Z 41)) (.pointer (some ⟨v.heap.size, 0, none⟩)) ?_ ⟨_, rfl, hb.size, World.alloc_heap_new _ _⟩ ((Below.refl _ _).alloc (Nat.le_refl _) _) ?_
        · simp only [execOp]
          go_simp
        · intro j y hj hG e
          have hj2 : j = 10 ∨ j = 11 ∨ j = 12 := by simpa [or_assoc] using hj
          rcases hj2 with rfl | rfl | rfl
          all_goals
            obtain ⟨p, e1, _, hh⟩ := hG
            rw [e1] at e
            injection e with e
            injection e with e
            injection e with e
            have := (Array.getElem?_eq_some_iff.1 hh).1
            omega
      | 13, _ => exact absurd hE (by decide)
      | 14, _ => exact absurd hE (by decide)
      | 15, _ => exact absurd hE (by decide)
      | q + 16, h => exact absurd h (by simp)
    case fin =>
      intro b' v hb hs hd hrest hall hpair
      have r0 : b'.tmps.getD 0 undef = .slice (some ⟨b0, f0, none⟩) n c := hrest 0 (Rg.freeOf_spec (by kernel_rfl))
      have r1 : b'.tmps.getD 1 undef = .int .i64 (m : Int) := hrest 1 (Rg.freeOf_spec (by kernel_rfl))
      have r2 : b'.tmps.getD 2 undef = .int .i64 (k : Int) := hrest 2 (Rg.freeOf_spec (by kernel_rfl))
      have r6 : b'.tmps.getD 6 undef = .bool false := hrest 6 (Rg.freeOf_spec (by kernel_rfl))
      have r7 : b'.tmps.getD 7 undef = .int .i64 (n : Int) := hrest 7 (Rg.freeOf_spec (by kernel_rfl))
      have r8 : b'.tmps.getD 8 undef = .slice o2 n c2 := hrest 8 (Rg.freeOf_spec (by kernel_rfl))
      obtain ⟨px, ex, hpx, hhx⟩ := hall 10 _ 9 rfl rfl rfl
      obtain ⟨py, ey, hpy, hhy⟩ := hall 11 _ 10 rfl rfl rfl
      obtain ⟨pz, ez, hpz, hhz⟩ := hall 12 _ 11 rfl rfl rfl
      have hxy : px ≠ py := fun e => hpair 10 11 _ _ 9 10 rfl rfl (by decide) rfl rfl rfl rfl rfl rfl rfl rfl (by rw [ex, ey, e])
      have hxz : px ≠ pz := fun e => hpair 10 12 _ _ 9 11 rfl rfl (by decide) rfl rfl rfl rfl rfl rfl rfl rfl (by rw [ex, ez, e])
      have hyz : py ≠ pz := fun e => hpair 11 12 _ _ 10 11 rfl rfl (by decide) rfl rfl rfl rfl rfl rfl rfl rfl (by rw [ey, ez, e])
      have e55 : b'.tmps.getD 55 undef = .agg R1 := hall 3 _ 55 rfl rfl rfl
      have e59 : b'.tmps.getD 59 undef = .agg R2 := hall 7 _ 59 rfl rfl rfl
      have e61 : b'.tmps.getD 61 undef = .agg R3 := hall 9 _ 61 rfl rfl rfl
      have hy1 : (v.setRow px R1).heap[py]? = some (.cells Z 41 (0, 0)) := by rw [setRow_other v px py R1 (Ne.symm hxy)]; exact hhy
      have hz1 : ((v.setRow px R1).setRow py R2).heap[pz]? = some (.cells Z 41 (0, 0)) := by rw [setRow_other _ py pz R2 (Ne.symm hyz), setRow_other v px pz R1 (Ne.symm hxz)]; exact hhz
      change wpAnyH _ _ _ _ _ 3 _ _ _
      refine wpAnyH_all (rs := [13]) (by kernel_rfl) (by simp) (fun i hi => ?_)
      obtain rfl : i = 13 := by simpa using hi
      refine Rg.op_store_rowD (g := px) rfl rfl rfl ex e55 hhx H1S.out H1Z.out H1O.out ⟨trivial, ?_⟩
      refine wpAnyH_all (rs := [14]) (by kernel_rfl) (by simp) (fun i hi => ?_)
      obtain rfl : i = 14 := by simpa using hi
      refine Rg.op_store_rowD (g := py) rfl rfl rfl ey e59 hy1 H2S.out H2Z.out H2O.out ⟨trivial, ?_⟩
      refine wpAnyH_all (rs := [15]) (by kernel_rfl) (by simp) (fun i hi => ?_)
      obtain rfl : i = 15 := by simpa using hi
      refine Rg.op_store_rowD (g := pz) rfl rfl rfl ez e61 hz1 H3S.out H3Z.out H3O.out ⟨trivial, ?_⟩
      refine wpAnyH_done (by kernel_rfl) ?_ _
      refine ⟨rfl, px, py, pz, fun i => b'.tmps.getD i undef, hpx, hpy, hpz, ?_, ?_, setRow_heap _ _ _ _ _ _ hz1, ((hb.trans (below_row hpx)).trans (below_row hpy)).trans (below_row hpz), ?_⟩
      · rw [setRow_other _ pz px R3 hxz, setRow_other _ py px R2 hxy]; exact setRow_heap _ _ _ _ _ _ hhx
      · rw [setRow_other _ pz py R3 hyz]; exact setRow_heap _ _ _ _ _ _ hy1
      have e := Rg.litD b'.tmps 137 hs
      obtain ⟨tm, df⟩ := b'
      obtain rfl : df = [] := hd
      dsimp only at r0 r1 r2 r6 r7 r8 ex ey ez e ⊢
      show ({ tmps := tm, defers := [] } : Act) = _
      congr 1
      refine e.trans ?_
      rw [← r0, ← r1, ← r2, ← r6, ← r7, ← r8, ← ex, ← ey, ← ez]
      rfl
  case rest =>
    rintro e a' V3 ⟨rfl, px, py, pz, f, hpx, hpy, hpz, hhx, hhy, hhz, hb3, rfl⟩
    dsimp only
    -- STOP3
    have HB3 := Lib.hid (Kit.step HB2.out hb3)
    have hD3 := HDG2.out.later hb3
    have hcl2 := hD3.le
    have hca2 := hD3.cap
    rw [HDS.out.2] at hcl2
    unfold maxLen at hca2
    obtain ⟨b2, f2, rfl, hlt2, _⟩ := hD3.at_ 0 (by have := HDS.out.2; omega)
    have hkc2 : k ≤ c2 := by omega
    have hLk := hD3.part 0 k (by have := HDS.out.2; omega) c2 (by omega) (by unfold maxLen; omega)
    rw [Nat.zero_mul, Nat.add_zero, List.drop_zero] at hLk
    have hkl : (ds.take k).length = k := by rw [List.length_take, HDS.out.2]; omega
    have HXP := Lib.hid (And.intro hhx (And.intro hhy hhz))
    have HPG := Lib.hid (And.intro hpx (And.intro hpy hpz))
    have PR1 := HC.out.prove V3 (ds.take k) (some ⟨b2, f2, none⟩) k c2 m hkl hm1 hmk (by omega) hLk (HV.out.later HB3.out)
    have g1 := Da.gch_own (ds.take k) k m hkl hm1 hmk (by omega)
    rw [List.take_take, Nat.min_eq_left hmk, HXX.out.2.2.2.2.2.2.1, HXX.out.2.2.2.2.2.2.2.1] at g1
    have g2 := Da.gch_own ds n k HDS.out.2 hk1 hkn (by omega)
    rw [HXX.out.2.2.2.2.2.2.2.1, HXX.out.2.2.2.2.2.2.2.2] at g2
    have g3 := Da.gch_own ds n m HDS.out.2 hm1 (by omega) (by omega)
    rw [HXX.out.2.2.2.2.2.2.1, HXX.out.2.2.2.2.2.2.2.2] at g3
    have q1 := Da.prf_length k (ds.take k) m true hkl hm1 hmk
    have q2 := Da.prf_length n ds k true HDS.out.2 hk1 hkn
    have q3 := Da.prf_length n ds m true HDS.out.2 hm1 (by omega)
    have t1 := Da.cnt_le k m true hm1 hmk
    have t2 := Da.cnt_le n k true hk1 hkn
    have t3 := Da.cnt_le n m true hm1 (by omega)
    have t4 := Da.dpt_le (n := k) (by omega)
    have t5 := Da.dpt_le (n := n) (by omega)
    obtain ⟨P1, hP1⟩ : ∃ P, Da.prf (ds.take k) m true = P := ⟨_, rfl⟩
    obtain ⟨P2, hP2⟩ : ∃ P, Da.prf ds k true = P := ⟨_, rfl⟩
    obtain ⟨P3, hP3⟩ : ∃ P, Da.prf ds m true = P := ⟨_, rfl⟩
    obtain ⟨u1, hu1⟩ : ∃ u, Da.cnt m k true = u := ⟨_, rfl⟩
    obtain ⟨u2, hu2⟩ : ∃ u, Da.cnt k n true = u := ⟨_, rfl⟩
    obtain ⟨u3, hu3⟩ : ∃ u, Da.cnt m n true = u := ⟨_, rfl⟩
    have PR2 := fun (W : World) (hW : Below V3.heap.size V3 W) => HC.out.prove W ds (some ⟨b2, f2, none⟩) n c2 k HDS.out.2 hk1 hkn (by omega) (hD3.later hW) ((HV.out.later HB3.out).later hW)
    have PR3 := fun (W : World) (hW : Below V3.heap.size V3 W) => HC.out.prove W ds (some ⟨b2, f2, none⟩) n c2 m HDS.out.2 hm1 (by omega) (by omega) (hD3.later hW) ((HV.out.later HB3.out).later hW)
    rw [hP1, hu1] at PR1
    simp only [hP2, hu2] at PR2
    simp only [hP3, hu3] at PR3
    rw [hP1] at g1 q1
    rw [hP2] at g2 q2
    rw [hP3] at g3 q3
    rw [hu1] at q1 t1
    rw [hu2] at q2 t2
    rw [hu3] at q3 t3
    have HGG := Lib.hid (show Da.gch (m : Int) x1 (k : Int) x2 P1 = 0 ∧ Da.gch (k : Int) x2 (n : Int) x3 P2 = 0 ∧ Da.gch (m : Int) x1 (n : Int) x3 P3 = 0 ∧ P1.length = u1 ∧ P2.length = u2 ∧ P3.length = u3 ∧ u1 ≤ 64 ∧ u2 ≤ 64 ∧ u3 ≤ 64 from ⟨g1, g2, g3, q1, q2, q3, by omega, by omega, by omega⟩)
    have HPR1 := Lib.hid PR1
    have HPR2 := Lib.hid PR2
    have HPR3 := Lib.hid PR3
    have HDG3 := Lib.hid hD3
    clear hb3 hD3 hLk hkl PR1 PR2 PR3 g1 g2 g3 q1 q2 q3 t1 t2 t3 t4 t5 hP1 hP2 hP3 hu1 hu2 hu3 hhx hhy hhz hpx hpy hpz hlt2
    go_wp2_with fail
    refine HPR1.out.mono ?_
    rintro e V4 ⟨o4, c4, rfl, hdg4, hb4⟩
    have HB34 := Lib.hid hb4
    have HDP4 := Lib.hid hdg4
    clear hdg4 hb4 HPR1
    go_wp2_with fail
    refine (HPR2.out V4 HB34.out).mono ?_
    rintro e V5 ⟨o5, c5, rfl, hdg5, hb5⟩
    have HB35 := Lib.hid (Kit.step HB34.out hb5)
    have HDP5 := Lib.hid hdg5
    have HDP45 := Lib.hid (HDP4.out.later hb5)
    clear hdg5 hb5 HPR2
    go_wp2_with fail
    refine (HPR3.out V5 HB35.out).mono ?_
    rintro e V6 ⟨o6, c6, rfl, hdg6, hb6⟩
    have HB36 := Lib.hid (Kit.step HB35.out hb6)
    have HDP6 := Lib.hid hdg6
    have HDP46 := Lib.hid (HDP45.out.later hb6)
    have HDP56 := Lib.hid (HDP5.out.later hb6)
    have NW := Lib.hid (HF.out.new V6)
    clear hdg6 hb6 HPR3
    go_wp2_with fail
    refine NW.out.mono ?_
    rintro e V7 ⟨v, O, rfl, hfr, hb7, hO⟩
    have HI : Hid (ChI FR ds k v V6 (.int .i64 0) V7) := Lib.hid ⟨0, O, rfl, Nat.zero_le _, by rw [List.take_zero, Da.pks_nil]; exact hfr, hO, hb7⟩
    have HB6 := Lib.hid (Kit.step HB3.out HB36.out)
    clear hfr hb7 hO NW
    go_wp2_with fail
    -- STOP4
    go_loopw [97] (fun iv wr => ChI FR ds k v V6 iv wr) (fun iv _ => k - (intOf iv).toNat)
    case atStart => exact HI.out
    case round =>
      obtain ⟨i, O, rfl, hi, hfr, hO, hB⟩ := hrel
      by_cases hlt : i < k
      · obtain ⟨bl, offl, pl, ql, he, hlbl, hlcell, hlrow⟩ := (HR.out.later HB6.out).cell i (by rw [HN.out]; omega)
        cases he
        rw [← hB.cell (p := ⟨b0, f0 + i, none⟩) hlbl] at hlcell
        have hll := Da.len_of HL2.out 200 (by omega) i (by rw [HN.out]; omega)
        have hstep : Da.psh i (Da.pks (ds.take i)) (Da.lf (bi bs i)) = Da.pks (ds.take (i + 1)) := by
          have h1 := Da.psh_pks (ds.take i) (Da.lf (bi bs i))
          rw [List.length_take, HDS.out.2, Nat.min_eq_left (by omega)] at h1
          rw [h1, Da.take_snoc ds i (by rw [HDS.out.2]; omega), ← HDS.out.1, Da.bi_lf bs i (by rw [HN.out]; omega)]
        have AD := HF.out.add hfr (by omega) (bi bs i) pl ql (hlrow.later hB) (by omega) ((HV.out.later HB6.out).later hB)
        rw [hstep] at AD
        obtain ⟨l1, hl1⟩ : ∃ l1, (bi bs i).length = l1 := ⟨_, rfl⟩
        rw [hl1] at AD hlcell
        have HAD := Lib.hid AD
        have HO := Lib.hid hO
        have HB := Lib.hid hB
        clear AD hstep hll hlrow hlbl hfr hO hB HI hl1
        go_wp2_with fail
        refine HAD.out.mono ?_
        rintro e Y ⟨O', rfl, hfr2, hm2, hO2⟩
        have HBY : Hid (Below V6.heap.size V6 Y) := Lib.hid (HB.out.trans (hm2.below (fun q hq ho => by have := HO.out q ho; omega) HB.out.size))
        have HOY : Hid (∀ q, O' q → V6.heap.size ≤ q) := Lib.hid fun q hq => by
          rcases hO2 q hq with h | h
          · exact HO.out q h
          · have := HB.out.size; omega
        have HFY := Lib.hid hfr2
        clear hfr2 hm2 hO2 HAD hlcell
        go_wp2_with fail
        go_roundw
        case rel => exact ⟨i + 1, O', by go_num, by omega, HFY.out, HOY.out, HBY.out⟩
        case measure => simp [intOf]; omega
      · obtain rfl : k = i := by omega
        have HB7 := Lib.hid (Kit.step HB6.out hB)
        have HB67 := Lib.hid hB
        have hx3 := HXP.out.1
        have RO := fun (W : World) (hW : Below wr.heap.size wr W) => HF.out.root (HF.out.later hfr hW) ((HV.out.later HB7.out).later hW)
        rw [Da.rtp_pks, HXX.out.2.2.2.2.2.2.2.1, HXX.out.2.2.2.2.1] at RO
        have b37 := Kit.step HB36.out hB
        have HF3' : Hid (∀ v, Below wr.heap.size wr v → v.heap[px]? = some (.cells R1 41 (0, 0)) ∧ v.heap[py]? = some (.cells R2 41 (0, 0)) ∧ v.heap[pz]? = some (.cells R3 41 (0, 0))) := Lib.hid fun v hv => by
          have hb := Kit.step b37 hv
          exact ⟨by rw [hb.block px (Array.getElem?_eq_some_iff.1 HXP.out.1).1]; exact HXP.out.1, by rw [hb.block py (Array.getElem?_eq_some_iff.1 HXP.out.2.1).1]; exact HXP.out.2.1, by rw [hb.block pz (Array.getElem?_eq_some_iff.1 HXP.out.2.2).1]; exact HXP.out.2.2⟩
        have K1 := fun (W : World) (hW : Below wr.heap.size wr W) => HC.out.check W (m : Int) (k : Int) x1 x2 P1 o4 c4 HXX.out.1 HXX.out.2.1 (by have := HGG.out; omega) (HDP46.out.later (Kit.step hB hW)) ((HV.out.later HB7.out).later hW) ((HE.out.later HB7.out).later hW)
        have K2 := fun (W : World) (hW : Below wr.heap.size wr W) => HC.out.check W (k : Int) (n : Int) x2 x3 P2 o5 c5 HXX.out.2.1 HXX.out.2.2.1 (by have := HGG.out; omega) (HDP56.out.later (Kit.step hB hW)) ((HV.out.later HB7.out).later hW) ((HE.out.later HB7.out).later hW)
        have K3 := fun (W : World) (hW : Below wr.heap.size wr W) => HC.out.check W (m : Int) (n : Int) x1 x3 P3 o6 c6 HXX.out.1 HXX.out.2.2.1 (by have := HGG.out; omega) (HDP6.out.later (Kit.step hB hW)) ((HV.out.later HB7.out).later hW) ((HE.out.later HB7.out).later hW)
        simp only [HGG.out.1, HGG.out.2.2.2.1, HXX.out.2.2.2.1, HXX.out.2.2.2.2.1, show errP A 0 = .nilIface from rfl] at K1
        simp only [HGG.out.2.1, HGG.out.2.2.2.2.1, HXX.out.2.2.2.2.1, HXX.out.2.2.2.2.2.1, show errP A 0 = .nilIface from rfl] at K2
        simp only [HGG.out.2.2.1, HGG.out.2.2.2.2.2.1, HXX.out.2.2.2.1, HXX.out.2.2.2.2.2.1, show errP A 0 = .nilIface from rfl] at K3
        have HCK1 := Lib.hid K1
        have HCK2 := Lib.hid K2
        have HCK3 := Lib.hid K3
        have HRO := Lib.hid RO
        have HEQ2 : Hid (∀ v, (binOp .eql 41 (.agg R2) (.agg R2)).run Tryd.prog v = .ok (.bool true) v) := Lib.hid fun v => by
          have := dgq_eql x2 x2 HXX.out.2.1 HXX.out.2.1 v
          rw [HXX.out.2.2.2.2.1, beq_self_eq_true] at this
          exact this
        have hgd := dgq_guard
        have heq2 := HEQ2.out
        clear RO K1 K2 K3 b37 hB hfr hO hx3 HI
        obtain ⟨C, hC⟩ : ∃ C : World → Prop, (fun v => Below wr.heap.size wr v) = C := ⟨_, rfl⟩
        have HC1 : Hid (∀ v, Below wr.heap.size wr v → C v) := Lib.hid fun v hv => by rw [← hC]; exact hv
        have HC2 : Hid (∀ v, C v → Below wr.heap.size wr v) := Lib.hid fun v hv => by rw [← hC] at hv; exact hv
        have hC0 : C wr.drew := HC1.out _ (Kit.dn' wr 1)
        clear hC
        have HF3 : Hid (∀ v, C v → v.heap[px]? = some (.cells R1 41 (0, 0)) ∧ v.heap[py]? = some (.cells R2 41 (0, 0)) ∧ v.heap[pz]? = some (.cells R3 41 (0, 0))) := Lib.hid fun v hv => HF3'.out v (HC2.out v hv)
        go_upto_region 24 with fail
        refine Rgt.region C (fun _ => false) (by kernel_rfl) ?_
        refine Rgt.take (i := 0) (x := .int .i64 (m : Int)) rfl rfl (by kernel_rfl) (by kernel_rfl) (by kernel_rfl) (by kernel_rfl) (fun _ _ _ h => h) (Or.inl ⟨by kernel_rfl, fun w hw => by (go_simp <;> with_reducible rfl)⟩) hC0 ?_
        go_simp
        refine Rgt.take (i := 1) (x := .agg R1) rfl rfl (by kernel_rfl) (by kernel_rfl) (by kernel_rfl) (by kernel_rfl) (fun _ _ _ h => h) (Or.inl ⟨by kernel_rfl, fun w hw => exec_row (t := 41) (fr := (0, 0)) rfl rfl ((HF3.out w hw).1) dg_under rfl H1S.out⟩) hC0 ?_
        go_simp
        refine Rgt.take (i := 2) (x := .int .i64 (k : Int)) rfl rfl (by kernel_rfl) (by kernel_rfl) (by kernel_rfl) (by kernel_rfl) (fun _ _ _ h => h) (Or.inl ⟨by kernel_rfl, fun w hw => by (go_simp <;> with_reducible rfl)⟩) hC0 ?_
        go_simp
        refine Rgt.take (i := 3) (x := .agg R2) rfl rfl (by kernel_rfl) (by kernel_rfl) (by kernel_rfl) (by kernel_rfl) (fun _ _ _ h => h) (Or.inl ⟨by kernel_rfl, fun w hw => exec_row (t := 41) (fr := (0, 0)) rfl rfl ((HF3.out w hw).2.1) dg_under rfl H2S.out⟩) hC0 ?_
        go_simp
        refine Rgt.take (i := 4) (x := .slice o4 u1 c4) rfl rfl (by kernel_rfl) (by kernel_rfl) (by kernel_rfl) (by kernel_rfl) (fun _ _ _ h => h) (Or.inl ⟨by kernel_rfl, fun w hw => by (go_simp <;> with_reducible rfl)⟩) hC0 ?_
        go_simp
        refine Rgt.ready (i := 5) (by kernel_rfl) rfl (by kernel_rfl) (fun K hK => ?_)
        go_simp
        refine (HCK1.out _ (HC2.out _ hC0)).mono ?_
        rintro e Y1 ⟨rfl, hb⟩
        have hC1 := HC1.out _ (Kit.step (HC2.out _ hC0) hb)
        clear hb
        refine hK _ _ hC1 ?_
        clear hK K hC0
        rename C _ => hC0
        refine Rgt.take (i := 6) (x := .bool true) rfl rfl (by kernel_rfl) (by kernel_rfl) (by kernel_rfl) (by kernel_rfl) (fun _ _ _ h => h) (Or.inl ⟨by kernel_rfl, fun w hw => by have hc := hen w; (go_simp <;> with_reducible rfl)⟩) hC0 ?_
        go_simp
        refine Rgt.take (i := 7) (x := .bool true) rfl rfl (by kernel_rfl) (by kernel_rfl) (by kernel_rfl) (by kernel_rfl) (fun _ _ _ h => h) (Or.inl ⟨by kernel_rfl, fun w hw => by (go_simp <;> with_reducible rfl)⟩) hC0 ?_
        go_simp
        refine Rgt.take (i := 8) (x := .int .i64 (k : Int)) rfl rfl (by kernel_rfl) (by kernel_rfl) (by kernel_rfl) (by kernel_rfl) (fun _ _ _ h => h) (Or.inl ⟨by kernel_rfl, fun w hw => by (go_simp <;> with_reducible rfl)⟩) hC0 ?_
        go_simp
        refine Rgt.take (i := 9) (x := .agg R2) rfl rfl (by kernel_rfl) (by kernel_rfl) (by kernel_rfl) (by kernel_rfl) (fun _ _ _ h => h) (Or.inl ⟨by kernel_rfl, fun w hw => exec_row (t := 41) (fr := (0, 0)) rfl rfl ((HF3.out w hw).2.1) dg_under rfl H2S.out⟩) hC0 ?_
        go_simp
        refine Rgt.take (i := 10) (x := .int .i64 (n : Int)) rfl rfl (by kernel_rfl) (by kernel_rfl) (by kernel_rfl) (by kernel_rfl) (fun _ _ _ h => h) (Or.inl ⟨by kernel_rfl, fun w hw => by (go_simp <;> with_reducible rfl)⟩) hC0 ?_
        go_simp
        refine Rgt.take (i := 11) (x := .agg R3) rfl rfl (by kernel_rfl) (by kernel_rfl) (by kernel_rfl) (by kernel_rfl) (fun _ _ _ h => h) (Or.inl ⟨by kernel_rfl, fun w hw => exec_row (t := 41) (fr := (0, 0)) rfl rfl ((HF3.out w hw).2.2) dg_under rfl H3S.out⟩) hC0 ?_
        go_simp
        refine Rgt.take (i := 12) (x := .slice o5 u2 c5) rfl rfl (by kernel_rfl) (by kernel_rfl) (by kernel_rfl) (by kernel_rfl) (fun _ _ _ h => h) (Or.inl ⟨by kernel_rfl, fun w hw => by (go_simp <;> with_reducible rfl)⟩) hC0 ?_
        go_simp
        refine Rgt.ready (i := 13) (by kernel_rfl) rfl (by kernel_rfl) (fun K hK => ?_)
        go_simp
        refine (HCK2.out _ (HC2.out _ hC0)).mono ?_
        rintro e Y1 ⟨rfl, hb⟩
        have hC1 := HC1.out _ (Kit.step (HC2.out _ hC0) hb)
        clear hb
        refine hK _ _ hC1 ?_
        clear hK K hC0
        rename C _ => hC0
        refine Rgt.take (i := 14) (x := .bool true) rfl rfl (by kernel_rfl) (by kernel_rfl) (by kernel_rfl) (by kernel_rfl) (fun _ _ _ h => h) (Or.inl ⟨by kernel_rfl, fun w hw => by have hc := hen w; (go_simp <;> with_reducible rfl)⟩) hC0 ?_
        go_simp
        refine Rgt.take (i := 15) (x := .bool true) rfl rfl (by kernel_rfl) (by kernel_rfl) (by kernel_rfl) (by kernel_rfl) (fun _ _ _ h => h) (Or.inl ⟨by kernel_rfl, fun w hw => by (go_simp <;> with_reducible rfl)⟩) hC0 ?_
        go_simp
        refine Rgt.take (i := 16) (x := .bool true) rfl rfl (by kernel_rfl) (by kernel_rfl) (by kernel_rfl) (by kernel_rfl) (fun _ _ _ h => h) (Or.inl ⟨by kernel_rfl, fun w hw => by (go_simp <;> with_reducible rfl)⟩) hC0 ?_
        go_simp
        refine Rgt.take (i := 17) (x := .int .i64 (m : Int)) rfl rfl (by kernel_rfl) (by kernel_rfl) (by kernel_rfl) (by kernel_rfl) (fun _ _ _ h => h) (Or.inl ⟨by kernel_rfl, fun w hw => by (go_simp <;> with_reducible rfl)⟩) hC0 ?_
        go_simp
        refine Rgt.take (i := 18) (x := .agg R1) rfl rfl (by kernel_rfl) (by kernel_rfl) (by kernel_rfl) (by kernel_rfl) (fun _ _ _ h => h) (Or.inl ⟨by kernel_rfl, fun w hw => exec_row (t := 41) (fr := (0, 0)) rfl rfl ((HF3.out w hw).1) dg_under rfl H1S.out⟩) hC0 ?_
        go_simp
        refine Rgt.take (i := 19) (x := .int .i64 (n : Int)) rfl rfl (by kernel_rfl) (by kernel_rfl) (by kernel_rfl) (by kernel_rfl) (fun _ _ _ h => h) (Or.inl ⟨by kernel_rfl, fun w hw => by (go_simp <;> with_reducible rfl)⟩) hC0 ?_
        go_simp
        refine Rgt.take (i := 20) (x := .agg R3) rfl rfl (by kernel_rfl) (by kernel_rfl) (by kernel_rfl) (by kernel_rfl) (fun _ _ _ h => h) (Or.inl ⟨by kernel_rfl, fun w hw => exec_row (t := 41) (fr := (0, 0)) rfl rfl ((HF3.out w hw).2.2) dg_under rfl H3S.out⟩) hC0 ?_
        go_simp
        refine Rgt.take (i := 21) (x := .slice o6 u3 c6) rfl rfl (by kernel_rfl) (by kernel_rfl) (by kernel_rfl) (by kernel_rfl) (fun _ _ _ h => h) (Or.inl ⟨by kernel_rfl, fun w hw => by (go_simp <;> with_reducible rfl)⟩) hC0 ?_
        go_simp
        refine Rgt.ready (i := 22) (by kernel_rfl) rfl (by kernel_rfl) (fun K hK => ?_)
        go_simp
        refine (HCK3.out _ (HC2.out _ hC0)).mono ?_
        rintro e Y1 ⟨rfl, hb⟩
        have hC1 := HC1.out _ (Kit.step (HC2.out _ hC0) hb)
        clear hb
        refine hK _ _ hC1 ?_
        clear hK K hC0
        rename C _ => hC0
        refine Rgt.take (i := 23) (x := .bool true) rfl rfl (by kernel_rfl) (by kernel_rfl) (by kernel_rfl) (by kernel_rfl) (fun _ _ _ h => h) (Or.inl ⟨by kernel_rfl, fun w hw => by have hc := hen w; (go_simp <;> with_reducible rfl)⟩) hC0 ?_
        go_simp
        refine Rgt.take (i := 24) (x := .bool true) rfl rfl (by kernel_rfl) (by kernel_rfl) (by kernel_rfl) (by kernel_rfl) (fun _ _ _ h => h) (Or.inl ⟨by kernel_rfl, fun w hw => by (go_simp <;> with_reducible rfl)⟩) hC0 ?_
        go_simp
        refine Rgt.take (i := 25) (x := .bool true) rfl rfl (by kernel_rfl) (by kernel_rfl) (by kernel_rfl) (by kernel_rfl) (fun _ _ _ h => h) (Or.inl ⟨by kernel_rfl, fun w hw => by (go_simp <;> with_reducible rfl)⟩) hC0 ?_
        go_simp
        refine Rgt.take (i := 26) (x := v) rfl rfl (by kernel_rfl) (by kernel_rfl) (by kernel_rfl) (by kernel_rfl) (fun _ _ _ h => h) (Or.inl ⟨by kernel_rfl, fun w hw => by (go_simp <;> with_reducible rfl)⟩) hC0 ?_
        go_simp
        refine Rgt.take (i := 28) (x := .agg R2) rfl rfl (by kernel_rfl) (by kernel_rfl) (by kernel_rfl) (by kernel_rfl) (fun _ _ _ h => h) (Or.inl ⟨by kernel_rfl, fun w hw => exec_row (t := 41) (fr := (0, 0)) rfl rfl ((HF3.out w hw).2.1) dg_under rfl H2S.out⟩) hC0 ?_
        go_simp
        refine Rgt.ready (i := 27) (by kernel_rfl) rfl (by kernel_rfl) (fun K hK => ?_)
        go_simp
        refine (HRO.out _ (HC2.out _ hC0)).mono ?_
        rintro e Y1 ⟨rfl, hb⟩
        have hC1 := HC1.out _ (Kit.step (HC2.out _ hC0) hb)
        clear hb
        refine hK _ _ hC1 ?_
        clear hK K hC0
        rename C _ => hC0
        refine Rgt.take (i := 29) (x := .bool true) rfl rfl (by kernel_rfl) (by kernel_rfl) (by kernel_rfl) (by kernel_rfl) (fun _ _ _ h => h) (Or.inl ⟨by kernel_rfl, fun w hw => by have hc := heq2 w; (go_simp <;> with_reducible rfl)⟩) hC0 ?_
        go_simp
        refine Rgt.take (i := 30) (x := .bool true) rfl rfl (by kernel_rfl) (by kernel_rfl) (by kernel_rfl) (by kernel_rfl) (fun _ _ _ h => h) (Or.inl ⟨by kernel_rfl, fun w hw => by (go_simp <;> with_reducible rfl)⟩) hC0 ?_
        go_simp
        refine Rgt.ready (i := 31) (by kernel_rfl) rfl (by kernel_rfl) (fun K hK => ?_)
        go_simp
        refine hK _ _ hC0 ?_
        clear hK K
        refine Rgt.done (by kernel_rfl) ?_ _
        have HB8 := Lib.hid (Kit.step HB7.out (HC2.out _ hC0))
        clear hC0
        go_wp2_with fail
        go_ret
        exact ⟨rfl, HB8.out⟩
theorem wh14_any (A : Nat → Addr) (hC : GrC A) (FR : Rf.Blk → World → Value → Nat → List (List UInt8) → Prop) (hF : FrC A FR) (bs : List (List UInt8)) (o : Option Addr) (n c : Nat) (hn : bs.length = n) (am ak : Int) (w : World) (hR : RbIs w o bs c) (hV : Cds w) (hD : Rds w) (hE : E13 w A) :
    Calls Tryd.prog 8 #[.slice o n c, .int .i64 am, .int .i64 ak] w fun e w' => e = .returned (.bool true) ∧ Below w.heap.size w w' := wh14_of _ rfl dg_zero A hC FR hF bs o n c hn am ak w hR hV hD hE
end Go.Proofs.YtfccpfmgkpcnoaaDoor
