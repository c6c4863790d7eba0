/- Long; TreeHalves. -/
import Derived.Test.YtmfbdelhkdimaaaDoorTo
import Derived.Test.YtmfbdelhkdimaaaDoorStq
namespace Go.Proofs.YtmfbdelhkdimaaaDoor.Da
theorem dpt_spl {n : Nat} (h : 2 ≤ n) : dpt n = 1 + dpt (spl n) := by
  have e1 : dpt n = (n - 1).log2 + 1 := by unfold dpt; rw [if_neg (by omega)]
  have e2 : spl n = 2 ^ (n - 1).log2 := by unfold spl; rw [if_neg (by omega)]
  rw [e1, e2]
  generalize (n - 1).log2 = j
  cases j with
  | zero => rfl
  | succ j =>
    have hp : 0 < 2 ^ j := Nat.two_pow_pos _
    rw [dpt_only (n := 2 ^ (j + 1)) (d := j + 1) (by rw [Nat.pow_succ]; omega) (Nat.le_refl _) (by rw [Nat.pow_succ]; omega)]
    omega
/-- more leaves than are asked, or longer ones -/
def lng (bs : List (List UInt8)) (m : Nat) : Bool := decide (m < bs.length) || bs.any fun b => decide (200 < b.length)
theorem lng_not {bs : List (List UInt8)} {m : Nat} (h : lng bs m = false) : bs.length ≤ m ∧ ∀ b ∈ bs, b.length ≤ 200 := by
  unfold lng at h
  simp only [Bool.or_eq_false_iff, decide_eq_false_iff_not, List.any_eq_false, decide_eq_true_eq] at h
  exact ⟨by omega, fun b hb => by have := h.2 b hb; omega⟩
theorem lng_at {bs : List (List UInt8)} {m k : Nat} (hk : k < bs.length) (h : 200 < (bi bs k).length) : lng bs m = true := by
  unfold lng
  rw [Bool.or_eq_true]
  right
  rw [List.any_eq_true]
  refine ⟨bs[k], List.getElem_mem hk, ?_⟩
  have e : bi bs k = bs[k] := by simp [bi, hk]
  rw [e] at h
  simpa using h
theorem lng_none {bs : List (List UInt8)} {m : Nat} (h1 : bs.length ≤ m) (h : ∀ i, i < bs.length → (bi bs i).length ≤ 200) : lng bs m = false := by
  unfold lng
  simp only [Bool.or_eq_false_iff, decide_eq_false_iff_not, List.any_eq_false, decide_eq_true_eq]
  refine ⟨by omega, fun b hb => ?_⟩
  obtain ⟨i, hi, rfl⟩ := List.mem_iff_getElem.1 hb
  have := h i hi
  have e : bi bs i = bs[i] := by simp [bi, hi]
  rw [e] at this
  omega
theorem mem_bi {bs : List (List UInt8)} {i : Nat} (hi : i < bs.length) : bi bs i ∈ bs := by
  have e : bi bs i = bs[i] := by simp [bi, hi]
  rw [e]; exact List.getElem_mem hi
theorem len_of {bs : List (List UInt8)} (h : ∀ b ∈ bs, b.length ≤ 200) (N : Nat) (hN : 200 ≤ N) : ∀ i, i < bs.length → (bi bs i).length ≤ N := fun _ hi => Nat.le_trans (h _ (mem_bi hi)) hN
end Go.Proofs.YtmfbdelhkdimaaaDoor.Da
namespace Go.Proofs.YtmfbdelhkdimaaaDoor
open Go.RowKit
set_option linter.unusedVariables false
set_option linter.unusedSimpArgs false
theorem dgq_eql (xs ys : List UInt8) (hx : xs.length = 32) (hy : ys.length = 32) (w : World) : (binOp .eql 32 (.agg (bytesV xs).toArray) (.agg (bytesV ys).toArray)).run Tryd.prog w = .ok (.bool (xs == ys)) w :=
  run_eql_bytes w 32 5 32 dg_under Tryd.underlying5 (fun w => by
    obtain ⟨i0, hi, _, hz1, _⟩ := info_parts info_u8
    simp [sizeOf, typeInfo, hi, hz1]) xs ys hx hy
theorem dgq_guard : Tryd.prog.eqGuardType Tryd.prog.depth 32 = false := by kernel_rfl
def LgAt (bs : List (List UInt8)) (w : World) (i : Value) (wr : World) : Prop := ∃ k : Nat, k ≤ bs.length ∧ i = .int .i64 (k : Int) ∧ (∀ i, i < k → (bi bs i).length ≤ 200) ∧ wr = w
set_option maxRecDepth 100000 in
theorem long_any (bs : List (List UInt8)) (o : Option Addr) (n c : Nat) (hn : bs.length = n) (m : Nat) (hm : m ≤ 1000) (w : World) (hR : RbIs w o bs c) :
    Calls Tryd.prog 8 #[.slice o n c, .int .i64 (m : Int)] w fun e w' => e = .returned (.bool (Da.lng bs m)) ∧ w' = w := by
  have hcl := hR.le.1
  have hca := hR.le.2
  rw [hn] at hcl
  unfold maxLen at hca
  have HR := Lib.hid hR
  have HN := Lib.hid hn
  clear hR hn
  by_cases hbig : m < n
  · have hd : decide ((n : Int) > (m : Int)) = true := by simp; omega
    have e : Da.lng bs m = true := by unfold Da.lng; simp [HN.out, hbig]
    rw [e]
    go_enter Tryd.func8, Tryd.ntmps8
    go_wp2_with fail
    go_ret
    exact ⟨rfl, rfl⟩
  have hd : decide ((n : Int) > (m : Int)) = false := by simp; omega
  obtain ⟨B, hB⟩ : ∃ B, Da.lng bs m = B := ⟨_, rfl⟩
  have HBT : Hid (∀ k, k < n → 200 < (bi bs k).length → B = true) := Lib.hid fun k hk h => by rw [← hB]; exact Da.lng_at (by rw [HN.out]; exact hk) h
  have HBF : Hid ((∀ i, i < n → (bi bs i).length ≤ 200) → B = false) := Lib.hid fun h => by rw [← hB]; exact Da.lng_none (by rw [HN.out]; omega) (by rw [HN.out]; exact h)
  rw [hB]
  clear hB
  go_enter Tryd.func8, Tryd.ntmps8
  go_wp2_with fail
  go_loopw [6, 13] (fun _ i wr => LgAt bs w i wr) (fun _ i _ => n - (intOf i).toNat)
  case atStart => exact ⟨0, Nat.zero_le _, rfl, fun i hi => absurd hi (Nat.not_lt_zero _), rfl⟩
  case round =>
    obtain ⟨k, hk, rfl, hall, rfl⟩ := hrel
    rw [HN.out] at hk
    by_cases hlt : k < n
    · obtain ⟨b, off, p, q, rfl, _, hc, hr⟩ := HR.out.cell k (by rw [HN.out]; exact hlt)
      have hr1 := hr.le
      have hr2 := hr.cap
      have HA := Lib.hid hall
      rw [bytesV_length] at hr1
      unfold maxLen at hr2
      obtain ⟨L, hL⟩ : ∃ L, (bi bs k).length = L := ⟨_, rfl⟩
      have HL := Lib.hid hL
      rw [hL] at hc hr1
      have hk0 : (0 : Int) ≤ (k : Int) := by omega
      have hk1 : (k : Int) < (n : Int) := by omega
      clear hr hL hall
      by_cases hlong : 200 < L
      · have hd2 : decide ((L : Int) > 200) = true := by simp; omega
        have e := HBT.out k hlt (by rw [HL.out]; exact hlong)
        subst e
        go_wp2_with fail
        go_ret
        exact ⟨rfl, rfl⟩
      · have hd2 : decide ((L : Int) > 200) = false := by simp; omega
        go_wp2_with fail
        go_roundw
        case rel => exact ⟨k + 1, by have := HN.out; omega, by go_num, fun i hi => by
          by_cases e : i = k
          · rw [e, HL.out]; omega
          · exact HA.out i (by omega), rfl⟩
        case measure => simp [intOf]; omega
    · obtain rfl : k = n := by omega
      have e := HBF.out hall
      subst e
      clear hall
      go_wp2_with fail
      go_ret
      exact ⟨rfl, rfl⟩
set_option maxRecDepth 100000 in
set_option maxHeartbeats 4000000 in
theorem th12_any (bs : List (List UInt8)) (o : Option Addr) (c : Nat) (w : World) (hR : RbIs w o bs c) (hV : Cds w) :
    Calls Tryd.prog 6 #[.slice o bs.length c] w fun e w' => e = .returned (.bool true) ∧ Below w.heap.size w w' := by
  have AL := Lib.hid (alive12_any w)
  have hcl := hR.le.1
  have hca := hR.le.2
  unfold maxLen at hca
  have HR := Lib.hid hR
  have HV := Lib.hid hV
  obtain ⟨n, hn⟩ : ∃ n, bs.length = n := ⟨_, rfl⟩
  have HN := Lib.hid hn
  rw [hn] at hcl ⊢
  clear hR hV hn
  go_enter Tryd.func6, Tryd.ntmps6
  go_wp2_with fail
  refine AL.out.mono ?_
  rintro e W1 ⟨rfl, hb1⟩
  have HB1 := Lib.hid hb1
  have HR1 := Lib.hid (HR.out.later hb1)
  have HV1 := Lib.hid (HV.out.later hb1)
  have LO := Lib.hid (long_any bs o n c HN.out 60 (by omega) W1 HR1.out)
  clear hb1 AL
  cases hlg : Da.lng bs 60 with
  | true =>
    rw [hlg] at LO
    clear hlg
    go_wp2_with fail
    refine LO.out.mono ?_
    rintro e w1 ⟨rfl, rfl⟩
    go_wp2_with fail
    go_ret
    exact ⟨rfl, HB1.out⟩
  | false =>
    rw [hlg] at LO
    obtain ⟨hn60, hall⟩ := Da.lng_not hlg
    rw [HN.out] at hn60
    have HAL := Lib.hid hall
    clear hlg hall
    have SP := tsplit_any (n : Int) W1 (by omega) (by omega)
    rw [Int.toNat_natCast] at SP
    have HSP := Lib.hid SP
    clear SP
    go_wp2_with fail
    refine LO.out.mono ?_
    rintro e w1 ⟨rfl, rfl⟩
    clear LO
    go_wp2_with fail
    refine HSP.out.mono ?_
    rintro e w1 ⟨rfl, rfl⟩
    rename World => W1
    clear HSP
    by_cases h2 : n < 2
    · have hd2 : decide ((n : Int) < 2) = true := by simp; omega
      have e0 : Da.spl n = 0 := by unfold Da.spl; rw [if_pos h2]
      rw [e0]
      by_cases h0 : n = 0
      · subst h0
        go_wp2_with fail
        go_quiet (fail)
        go_wp2_with fail
        go_ret
        exact ⟨rfl, Kit.dn HB1.out _⟩
      · obtain rfl : n = 1 := by omega
        obtain ⟨b1, off1, p, q, rfl, _, hc, hr⟩ := HR1.out.cell 0 (by rw [HN.out]; omega)
        obtain ⟨x, rfl⟩ := List.length_eq_one_iff.1 HN.out
        rw [show bi [x] 0 = x from rfl, Nat.add_zero] at hc
        rw [show bi [x] 0 = x from rfl] at hr
        have hxl := HAL.out x (by simp)
        obtain ⟨RA, hRA⟩ : ∃ RA, (bytesV (Da.lf x)).toArray = RA := ⟨_, rfl⟩
        have HRO : Hid (∀ v, Below W1.heap.size W1 v → Calls Tryd.prog 15 #[.slice (some ⟨b1, off1, none⟩) 1 c] v fun e w' => e = .returned (.agg RA) ∧ Below W1.heap.size W1 w') := Lib.hid fun v hb => by
          have := troot_any [x] _ 1 c rfl v (HR1.out.later hb) (HV1.out.later hb) (by simp) (Da.len_of HAL.out _ (by omega))
          rw [Da.mth_one, hRA] at this
          exact this.mono fun e w' h => ⟨h.1, Kit.step hb h.2⟩
        have HLE : Hid (∀ v, Below W1.heap.size W1 v → Calls Tryd.prog 13 #[.slice p x.length q] v fun e w' => e = .returned (.agg RA) ∧ Below W1.heap.size W1 w') := Lib.hid fun v hb => by
          have := tleaf_any x p q v (hr.later hb) (HV1.out.later hb) (by omega)
          rw [hRA] at this
          exact this.mono fun e w' h => ⟨h.1, Kit.step hb h.2⟩
        have heq : ∀ W, (binOp .eql 32 (.agg RA) (.agg RA)).run Tryd.prog W = .ok (.bool true) W := fun W => by
          have := dgq_eql (Da.lf x) (Da.lf x) (Da.lf_length x) (Da.lf_length x) W
          rw [hRA, beq_self_eq_true] at this
          exact this
        have hgd := dgq_guard
        obtain ⟨C, hC⟩ : ∃ C : World → Prop, (fun v => Below W1.heap.size W1 v) = C := ⟨_, rfl⟩
        have hC0 : C { W1 with drawn := W1.drawn + 1 } := by rw [← hC]; exact Kit.dn' W1 1
        have HCm : Hid (∀ v, C v → Below W1.heap.size W1 v) := Lib.hid fun v hv => by rw [← hC] at hv; exact hv
        have HCi : Hid (∀ v, Below W1.heap.size W1 v → C v) := Lib.hid fun v hv => by rw [← hC]; exact hv
        have hblt : b1 < W1.heap.size := World.block_lt_of_cell? W1 _ hc
        have HLD : Hid (∀ v, Below W1.heap.size W1 v → v.cell? ⟨b1, off1, none⟩ = some (.slice p x.length q)) := Lib.hid fun v hb => by rw [hb.cell (p := ⟨b1, off1, none⟩) hblt]; exact hc
        obtain ⟨L, hL⟩ : ∃ L, x.length = L := ⟨_, rfl⟩
        rw [hL] at HLD HLE
        clear hC hr hRA hc hxl hL hblt
        go_upto_region 8 with fail
        refine wp_region_quiet (C := C) (by kernel_rfl) (by kernel_rfl) hC0 ?_
        simp only
        (refine wpQuiet_step (fun K hK => ?_); refine St.qk_val (x := ?_) (by rfl) (fun w hw => ?_) ?_; rotate_left; (· go_simp <;> with_reducible rfl); go_simp; refine hK _ ?_; clear hK K)
        (refine wpQuiet_step (fun K hK => ?_); refine St.qk_val (x := ?_) (by rfl) (fun w hw => ?_) ?_; rotate_left; (· go_simp <;> with_reducible rfl); go_simp; refine hK _ ?_; clear hK K)
        (refine wpQuiet_step (fun K hK => ?_); refine St.qk_val (x := ?_) (by rfl) (fun w hw => ?_) ?_; rotate_left; (· go_simp <;> with_reducible rfl); go_simp; refine hK _ ?_; clear hK K)
        (refine wpQuiet_step (fun K hK => ?_); refine St.qk_val (x := ?_) (by rfl) (fun w hw => ?_) ?_; rotate_left; (· go_simp <;> with_reducible rfl); go_simp; refine hK _ ?_; clear hK K)
        (refine wpQuiet_step (fun K hK => ?_); refine St.qk_val (x := ?_) (by rfl) (fun w hw => ?_) ?_; rotate_left; (· go_simp <;> with_reducible rfl); go_simp; refine hK _ ?_; clear hK K)
        (refine wpQuiet_step (fun K hK => ?_); refine St.qk_val (x := ?_) (by rfl) (fun w hw => ?_) ?_; rotate_left; (· go_simp <;> with_reducible rfl); go_simp; refine hK _ ?_; clear hK K)
        (refine wpQuiet_step (fun K hK => ?_); refine St.qk_val (x := ?_) (by rfl) (fun w hw => ?_) ?_; rotate_left; (· go_simp <;> with_reducible rfl); go_simp; refine hK _ ?_; clear hK K)
        (refine wpQuiet_step (fun K hK => ?_); refine St.qk_call (by rfl) 15 _ _ rfl #[.slice (some ⟨b1, off1, none⟩) 1 c] (by go_simp) (fun w => by simp [go_sem]) (.agg RA) (fun v hv => (HRO.out v (HCm.out v hv)).mono (fun e w' h => ⟨h.1, HCi.out _ h.2⟩)) ?_; go_simp; refine hK _ ?_; clear hK K)
        (refine wpQuiet_step (fun K hK => ?_); refine St.qk_val (x := ?_) (by rfl) (fun w hw => ?_) ?_; rotate_left; (· go_simp <;> with_reducible rfl); go_simp; refine hK _ ?_; clear hK K)
        (refine wpQuiet_step (fun K hK => ?_); refine St.qk_val (x := ?_) (by rfl) (fun w hw => ?_) ?_; rotate_left; (· go_simp <;> with_reducible rfl); go_simp; refine hK _ ?_; clear hK K)
        (refine wpQuiet_step (fun K hK => ?_); refine St.qk_val (x := .slice p L q) (by rfl) (fun w hw => by have hcc := HLD.out w (HCm.out w hw); go_simp) ?_; go_simp; refine hK _ ?_; clear hK K)
        (refine wpQuiet_step (fun K hK => ?_); refine St.qk_call (by rfl) 13 _ _ rfl #[.slice p L q] (by go_simp) (fun w => by simp [go_sem]) (.agg RA) (fun v hv => (HLE.out v (HCm.out v hv)).mono (fun e w' h => ⟨h.1, HCi.out _ h.2⟩)) ?_; go_simp; refine hK _ ?_; clear hK K)
        (refine wpQuiet_step (fun K hK => ?_); refine St.qk_val (x := ?_) (by rfl) (fun w hw => ?_) ?_; rotate_left; (· go_simp <;> with_reducible rfl); go_simp; refine hK _ ?_; clear hK K)
        (refine wpQuiet_step (fun K hK => ?_); refine St.qk_val (x := ?_) (by rfl) (fun w hw => ?_) ?_; rotate_left; (· go_simp <;> with_reducible rfl); go_simp; refine hK _ ?_; clear hK K)
        (refine wpQuiet_step (fun K hK => ?_); refine St.qk_val (x := ?_) (by rfl) (fun w hw => ?_) ?_; rotate_left; (· go_simp <;> with_reducible rfl); go_simp; refine hK _ ?_; clear hK K)
        (refine wpQuiet_step (fun K hK => ?_); refine St.qk_val (x := ?_) (by rfl) (fun w hw => ?_) ?_; rotate_left; (· go_simp <;> with_reducible rfl); go_simp; refine hK _ ?_; clear hK K)
        refine wpQuiet_nil ?_
        intro X8 hX8
        have HB8 := Lib.hid (Kit.step HB1.out (HCm.out X8 hX8))
        clear hX8
        go_wp2_with fail
        go_ret
        exact ⟨rfl, HB8.out⟩
    have hd2 : decide ((n : Int) < 2) = false := by simp; omega
    obtain ⟨s1, s2, s3⟩ := Da.spl_lt (n := n) (by omega)
    have hds := Da.dpt_spl (n := n) (by omega)
    have D1 := tdepth_any (n : Int) W1 (by omega) (by omega)
    rw [Int.toNat_natCast] at D1
    have hm2 := Da.mth_two (l := bs) (by rw [HN.out]; omega)
    rw [HN.out] at hm2
    obtain ⟨k, hk⟩ : ∃ k, Da.spl n = k := ⟨_, rfl⟩
    rw [hk] at s1 s2 s3 hds hm2 ⊢
    have D2 := tdepth_any (k : Int) W1 (by omega) (by omega)
    rw [Int.toNat_natCast] at D2
    rw [hds] at D1
    have hdl := Da.dpt_le (n := k) (by omega)
    obtain ⟨d, hd⟩ : ∃ d, Da.dpt k = d := ⟨_, rfl⟩
    rw [hd] at D1 D2 hdl
    have hd3 : decide ((k : Int) < 1) = false := by simp; omega
    have hd4 : decide ((k : Int) ≥ (n : Int)) = false := by simp; omega
    have hd4' : decide (n ≤ k) = false := by simp; omega
    have hw1 : IntKind.i64.wrap (1 + (d : Int)) = ((1 + d : Nat) : Int) := by rw [IntKind.wrap_i64]; omega
    have HD1 := Lib.hid D1
    have HD2 := Lib.hid D2
    obtain ⟨b1, off1, p, q, rfl, _, _, _⟩ := HR1.out.cell 0 (by rw [HN.out]; omega)
    have hck : ¬ c = k := by omega
    have hkc : k ≤ c := by omega
    have hkn : k ≤ n := by omega
    obtain ⟨RA, hRA⟩ : ∃ RA, (bytesV (Da.mth bs)).toArray = RA := ⟨_, rfl⟩
    obtain ⟨LA, hLA⟩ : ∃ LA, (bytesV (Da.mth (bs.take k))).toArray = LA := ⟨_, rfl⟩
    obtain ⟨DA, hDA⟩ : ∃ DA, (bytesV (Da.mth (bs.drop k))).toArray = DA := ⟨_, rfl⟩
    have hpl := HR1.out.part 0 k (by rw [HN.out]; omega) c (by omega) (by unfold maxLen; omega)
    rw [Nat.add_zero, List.drop_zero] at hpl
    have hpr := HR1.out.part k (n - k) (by rw [HN.out]; omega) (c - k) (by omega) (by unfold maxLen; omega)
    rw [List.take_of_length_le (by rw [List.length_drop, HN.out]; exact Nat.le_refl _)] at hpr
    have HRO : Hid (∀ v, Below W1.heap.size W1 v → Calls Tryd.prog 15 #[.slice (some ⟨b1, off1, none⟩) n c] v fun e w' => e = .returned (.agg RA) ∧ Below W1.heap.size W1 w') := Lib.hid fun v hb => by
      have := troot_any bs _ n c HN.out v (HR1.out.later hb) (HV1.out.later hb) (by rw [HN.out]; omega) (Da.len_of HAL.out _ (by omega))
      rw [hRA] at this
      exact this.mono fun e w' h => ⟨h.1, Kit.step hb h.2⟩
    have HRL : Hid (∀ v, Below W1.heap.size W1 v → Calls Tryd.prog 15 #[.slice (some ⟨b1, off1, none⟩) k c] v fun e w' => e = .returned (.agg LA) ∧ Below W1.heap.size W1 w') := Lib.hid fun v hb => by
      have := troot_any (bs.take k) _ k c (by rw [List.length_take, HN.out]; omega) v (hpl.later hb) (HV1.out.later hb) (by rw [List.length_take, HN.out]; omega) (Da.len_of (fun b h => HAL.out b (List.mem_of_mem_take h)) _ (by omega))
      rw [hLA] at this
      exact this.mono fun e w' h => ⟨h.1, Kit.step hb h.2⟩
    have HRD : Hid (∀ v, Below W1.heap.size W1 v → Calls Tryd.prog 15 #[.slice (some ⟨b1, off1 + k, none⟩) (n - k) (c - k)] v fun e w' => e = .returned (.agg DA) ∧ Below W1.heap.size W1 w') := Lib.hid fun v hb => by
      have := troot_any (bs.drop k) _ (n - k) (c - k) (by rw [List.length_drop, HN.out]) v (hpr.later hb) (HV1.out.later hb) (by rw [List.length_drop, HN.out]; omega) (Da.len_of (fun b h => HAL.out b (List.mem_of_mem_drop h)) _ (by omega))
      rw [hDA] at this
      exact this.mono fun e w' h => ⟨h.1, Kit.step hb h.2⟩
    have HNO : Hid (∀ v, Below W1.heap.size W1 v → Calls Tryd.prog 18 #[.agg LA, .agg DA] v fun e w' => e = .returned (.agg RA) ∧ Below W1.heap.size W1 w') := Lib.hid fun v hb => by
      have := tnode_any (Da.mth (bs.take k)) (Da.mth (bs.drop k)) (Da.mth_length _) (Da.mth_length _) v (HV1.out.later hb)
      rw [← hm2, hLA, hDA, hRA] at this
      exact this.mono fun e w' h => ⟨h.1, Kit.step hb h.2⟩
    have heq : ∀ W, (binOp .eql 32 (.agg RA) (.agg RA)).run Tryd.prog W = .ok (.bool true) W := fun W => by
      have := dgq_eql (Da.mth bs) (Da.mth bs) (Da.mth_length bs) (Da.mth_length bs) W
      rw [hRA, beq_self_eq_true] at this
      exact this
    have hgd := dgq_guard
    obtain ⟨C, hC⟩ : ∃ C : World → Prop, (fun v => Below W1.heap.size W1 v) = C := ⟨_, rfl⟩
    have hC0 : C { W1 with drawn := W1.drawn + 1 } := by rw [← hC]; exact Kit.dn' W1 1
    have HCm : Hid (∀ v, C v → Below W1.heap.size W1 v) := Lib.hid fun v hv => by rw [← hC] at hv; exact hv
    have HCi : Hid (∀ v, Below W1.heap.size W1 v → C v) := Lib.hid fun v hv => by rw [← hC]; exact hv
    clear D1 D2 hC hRA hLA hDA hpl hpr hk hd hds hm2
    go_wp2_with fail
    refine HD1.out.mono ?_
    rintro e w1 ⟨rfl, rfl⟩
    go_wp2_with fail
    refine HD2.out.mono ?_
    rintro e w1 ⟨rfl, rfl⟩
    rename World => W1
    clear HD1 HD2
    go_upto_region 11 with fail
    refine wp_region_quiet (C := C) (by kernel_rfl) (by kernel_rfl) hC0 ?_
    simp only
    (refine wpQuiet_step (fun K hK => ?_); refine St.qk_val (x := ?_) (by rfl) (fun w hw => ?_) ?_; rotate_left; (· go_simp <;> with_reducible rfl); go_simp; refine hK _ ?_; clear hK K)
    (refine wpQuiet_step (fun K hK => ?_); refine St.qk_call (by rfl) 15 _ _ rfl #[.slice (some ⟨b1, off1, none⟩) n c] (by go_simp) (fun w => by simp [go_sem]) (.agg RA) (fun v hv => (HRO.out v (HCm.out v hv)).mono (fun e w' h => ⟨h.1, HCi.out _ h.2⟩)) ?_; go_simp; refine hK _ ?_; clear hK K)
    (refine wpQuiet_step (fun K hK => ?_); refine St.qk_val (x := ?_) (by rfl) (fun w hw => ?_) ?_; rotate_left; (· go_simp <;> with_reducible rfl); go_simp; refine hK _ ?_; clear hK K)
    (refine wpQuiet_step (fun K hK => ?_); refine St.qk_val (x := ?_) (by rfl) (fun w hw => ?_) ?_; rotate_left; (· go_simp <;> with_reducible rfl); go_simp; refine hK _ ?_; clear hK K)
    (refine wpQuiet_step (fun K hK => ?_); refine St.qk_val (x := ?_) (by rfl) (fun w hw => ?_) ?_; rotate_left; (· go_simp <;> with_reducible rfl); go_simp; refine hK _ ?_; clear hK K)
    (refine wpQuiet_step (fun K hK => ?_); refine St.qk_call (by rfl) 15 _ _ rfl #[.slice (some ⟨b1, off1, none⟩) k c] (by go_simp) (fun w => by simp [go_sem]) (.agg LA) (fun v hv => (HRL.out v (HCm.out v hv)).mono (fun e w' h => ⟨h.1, HCi.out _ h.2⟩)) ?_; go_simp; refine hK _ ?_; clear hK K)
    (refine wpQuiet_step (fun K hK => ?_); refine St.qk_val (x := ?_) (by rfl) (fun w hw => ?_) ?_; rotate_left; (· go_simp <;> with_reducible rfl); go_simp; refine hK _ ?_; clear hK K)
    (refine wpQuiet_step (fun K hK => ?_); refine St.qk_val (x := ?_) (by rfl) (fun w hw => ?_) ?_; rotate_left; (· go_simp <;> with_reducible rfl); go_simp; refine hK _ ?_; clear hK K)
    (refine wpQuiet_step (fun K hK => ?_); refine St.qk_val (x := ?_) (by rfl) (fun w hw => ?_) ?_; rotate_left; (· go_simp <;> with_reducible rfl); go_simp; refine hK _ ?_; clear hK K)
    (refine wpQuiet_step (fun K hK => ?_); refine St.qk_call (by rfl) 15 _ _ rfl #[.slice (some ⟨b1, off1 + k, none⟩) (n - k) (c - k)] (by go_simp) (fun w => by simp [go_sem]) (.agg DA) (fun v hv => (HRD.out v (HCm.out v hv)).mono (fun e w' h => ⟨h.1, HCi.out _ h.2⟩)) ?_; go_simp; refine hK _ ?_; clear hK K)
    (refine wpQuiet_step (fun K hK => ?_); refine St.qk_call (by rfl) 18 _ _ rfl #[.agg LA, .agg DA] (by go_simp) (fun w => by simp [go_sem]) (.agg RA) (fun v hv => (HNO.out v (HCm.out v hv)).mono (fun e w' h => ⟨h.1, HCi.out _ h.2⟩)) ?_; go_simp; refine hK _ ?_; clear hK K)
    (refine wpQuiet_step (fun K hK => ?_); refine St.qk_val (x := ?_) (by rfl) (fun w hw => ?_) ?_; rotate_left; (· go_simp <;> with_reducible rfl); go_simp; refine hK _ ?_; clear hK K)
    (refine wpQuiet_step (fun K hK => ?_); refine St.qk_val (x := ?_) (by rfl) (fun w hw => ?_) ?_; rotate_left; (· go_simp <;> with_reducible rfl); go_simp; refine hK _ ?_; clear hK K)
    refine wpQuiet_nil ?_
    intro X8 hX8
    have HB8 := Lib.hid (Kit.step HB1.out (HCm.out X8 hX8))
    clear hX8
    go_wp2_with fail
    go_ret
    exact ⟨rfl, HB8.out⟩
end Go.Proofs.YtmfbdelhkdimaaaDoor
