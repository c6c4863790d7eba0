/- The walk of PolyRemainder. -/
import Derived.Test.YthbmbobjalgafaaDoorDv
import Derived.Test.YthbmbobjalgafaaDoorRw
namespace Go.Proofs.YthbmbobjalgafaaDoor
open Go.RowKit
set_option linter.unusedVariables false
set_option linter.unusedSimpArgs false
/-- what each operation of the region has as its result -/
def ReG (p : List UInt8) (B : Bool) (vv : UInt8) (i : Nat) (x : Value) (v : World) : Prop :=
  match i with
  | 0 | 2 => (x) = .bool B
  | 1 => (x) = .int .u8 (vv.toNat : Int)
  | 5 | 8 => RowV (tr p) (x) v
  | 6 | 9 => (x) = .string ⟨(tr p).toArray⟩
  | 7 => RowV (p) (x) v
  | _ => (x) = .bool true
theorem ReG.later {p : List UInt8} {B : Bool} {vv : UInt8} (i : Nat) (x : Value) (v v' : World) (h : ReG p B vv i x v) (hb : Below v.heap.size v v') : ReG p B vv i x v' := by
  unfold ReG at *
  split at h <;> first | exact h | exact h.later hb
theorem div_back' {p q Y R : List UInt8} (h : DivOf p q Y R) : tr (addL (tr (mulL Y q)) R) = tr p :=
  tr_congr fun k => by rw [co_addL, co_tr, h.eq]
theorem ev_lin (r : UInt8) : evL [r, 1] r = 0 := by
  show (0 ^^^ Gf.gm r 1) ^^^ Gf.gm 1 (Gf.gm 1 r) = _
  rw [UInt8.zero_xor, Gf.gm_one, Gf.one_gm, Gf.one_gm, UInt8.xor_self]
theorem ev_rest {p Y R : List UInt8} {r : UInt8} (h : DivOf p [r, 1] Y R) : evL p r = evL R r := by
  rw [← evL_tr p, ← div_back' h, evL_tr, evL_add, evL_tr, evL_mul, ev_lin, Gf.gm_zero, UInt8.zero_xor]
theorem tr_lin (r : UInt8) : tr [r, 1] = [r, 1] := tr_of_top fun _ => by
  show (1 : UInt8) ≠ 0
  decide
theorem ev_single (a x : UInt8) : evL [a] x = a := by
  show (0 ^^^ Gf.gm a 1) = _
  rw [UInt8.zero_xor, Gf.gm_one]
theorem any_zl (p : List UInt8) (r : UInt8) (k : Nat) (hk : k ≤ 256) : (zl p k).any (· == r) = (decide (r.toNat < k) && decide (evL p r = 0)) := by
  induction k with
  | zero => rfl
  | succ k ih =>
    have ih := ih (by omega)
    rw [zl]
    have hk2 : (UInt8.ofNat k).toNat = k := by rw [UInt8.toNat_ofNat']; omega
    by_cases e : UInt8.ofNat k = r
    · have e2 : r.toNat = k := by rw [← e, hk2]
      split
      · rename_i h0
        rw [e] at h0
        simp [e, e2, h0]
      · rename_i h0
        rw [e] at h0
        rw [ih]
        simp [h0]
    · have e2 : r.toNat ≠ k := fun h => e (Gf.u8_ext (by rw [hk2, h]))
      have e3 : decide (r.toNat < k + 1) = decide (r.toNat < k) := by
        by_cases h : r.toNat < k
        · simp [h]; omega
        · have : ¬ r.toNat < k + 1 := by omega
          simp [h, this]
      have e4 : (UInt8.ofNat k == r) = false := by simpa using e
      rw [e3, ← ih]
      split
      · rw [List.any_append]
        simp [e4]
      · rfl
theorem any_step (z : List UInt8) (r : UInt8) (k : Nat) (h : k < z.length) : (z.take (k + 1)).any (· == r) = ((z.take k).any (· == r) || (co z k == r)) := by
  have e : z.take (k + 1) = z.take k ++ [co z k] := by
    rw [List.take_add_one, List.getElem?_eq_getElem h]
    simp [co, h]
  rw [e, List.any_append]
  simp
def ReAt2 (z : List UInt8) (r : UInt8) (w : World) (root i : Value) (wr : World) : Prop :=
  ∃ k : Nat, k ≤ z.length ∧ i = .int .i64 k ∧ root = .bool ((z.take k).any (· == r)) ∧ wr = w
set_option maxRecDepth 100000 in
set_option maxHeartbeats 4000000 in
theorem rem_short (p : List UInt8) (r : UInt8) (o : Option Addr) (c : Nat) (w : World) (hP : RowIs w o (bytesV p) c) (hl1 : p.length ≤ 60) :
    Calls Tryd.prog 4 #[.slice o p.length c, .int .u8 (r.toNat : Int)] w fun e w' => e = .returned (.bool true) ∧ Below w.heap.size w w' := by
  have HP := Lib.hid hP
  have hrl := UInt8.toNat_lt r
  clear hP
  go_enter Tryd.func4, Tryd.ntmps4
  go_wp2_with fail
  refine (alive2_any _).mono ?_; rintro e w1 ⟨rfl, hg⟩
  have HG := Lib.hid hg
  clear hg
  obtain ⟨w2, hw2⟩ : ∃ w2, w1.alloc (.cells (bytesV [r, 1]).toArray 5) = w2 := ⟨_, rfl⟩
  have hb2 : Below w1.heap.size w1 w2 := by rw [← hw2]; exact (Below.refl _ _).alloc (Nat.le_refl _) _
  have hr2 : RowIs w2 (some ⟨w1.heap.size, 0, none⟩) (bytesV [r, 1]) 2 := by rw [← hw2]; exact row_cells (World.alloc_heap_new _ _) (by unfold maxLen; simp)
  have HG2 := Lib.hid (Kit.step HG.out hb2)
  have hdv := div_any p [r, 1] o (some ⟨w1.heap.size, 0, none⟩) c 2 w2 (HP.out.later HG2.out) hr2 (by omega) (by simp) (by rw [tr_lin]; simp)
  rw [← hw2] at hdv
  have HDV := Lib.hid hdv
  have HW2 := Lib.hid hw2
  clear hdv hr2 hb2 hw2
  go_wp2_with fail
  refine HDV.out.mono ?_; rintro e w3 ⟨Y, R, x, y, hD, hyl, rfl, hY, hR, hg⟩
  rw [HW2.out] at hg
  have HG3 := Lib.hid (Kit.step HG2.out hg)
  have hless := hD.less
  rw [tr_lin] at hless
  have EV := ev_rest hD
  have BK := div_back' hD
  obtain ⟨o5, c5, rfl, hR⟩ := hR
  obtain ⟨o4, c4, rfl, hY⟩ := hY
  have HY := Lib.hid hY
  have HR := Lib.hid hR
  have hml : (tr (mulL Y [r, 1])).length ≤ Y.length + 2 := by have := tr_le (mulL Y [r, 1]); simpa [mulL] using this
  have hRl : R.length ≤ 1 := by simpa using Nat.le_of_lt_succ hless
  have hRi : ¬ (1 : Int) < (R.length : Int) := by omega
  have hRd : decide ((1 : Int) < (R.length : Int)) = false := by simpa using hRi
  clear hg hY hR hD hless HDV HW2
  go_wp2_with fail
  refine (eval_any p r o c _ (HP.out.later HG3.out)).mono ?_; rintro e w4 ⟨rfl, hg⟩
  have HG4 := Lib.hid (Kit.step HG3.out hg)
  have HY4 := Lib.hid (HY.out.later hg)
  have HR4 := Lib.hid (HR.out.later hg)
  have hVV : ∃ vv, vv = evL p r := ⟨_, rfl⟩
  obtain ⟨vv, hvv⟩ := hVV
  rw [← hvv]
  rw [← hvv] at EV
  have hvl := UInt8.toNat_lt vv
  have HVV := Lib.hid hvv
  have HBK := Lib.hid BK
  have hml := Lib.hid hml
  have hyl := Lib.hid hyl
  clear hg HY HR hvv BK hRi hRd
  have hz : Calls Tryd.prog 12 #[.slice o p.length c] w4 (Rows (zl p 256) w4) := zeros_any p o c w4 (HP.out.later HG4.out)
  have HZ := Lib.hid hz
  clear hz
  have hcase : R = [] ∨ ∃ a, R = [a] := by
    match R, hRl with
    | [], _ => exact .inl rfl
    | [a], _ => exact .inr ⟨a, rfl⟩
  rcases hcase with rfl | ⟨a, rfl⟩
  · have hv0 : vv = 0 := EV
    subst hv0
    clear EV
    go_wp2_with fail
    refine HZ.out.mono ?_; rintro e w5 ⟨z, rfl, hz, hg⟩
    obtain ⟨o6, c6, rfl, hz⟩ := hz
    have HG5 := Lib.hid (Kit.step HG4.out hg)
    have HY5 := Lib.hid (HY4.out.later hg)
    have HR5 := Lib.hid (HR4.out.later hg)
    have hzl := zl_length p 256
    have hany := any_zl p r 256 (Nat.le_refl _)
    rw [← HVV.out] at hany
    obtain ⟨zs, hzs⟩ : ∃ zs, zs = zl p 256 := ⟨_, rfl⟩
    rw [← hzs] at hzl hz hany ⊢
    have HZR := Lib.hid hz
    obtain ⟨B, hB⟩ : ∃ B, B = zs.any (· == r) := ⟨_, rfl⟩
    have HANY : Hid (zs.any (· == r) = B) := Lib.hid hB.symm
    have HB : Hid (B = decide ((0 : UInt8) = 0)) := Lib.hid (by
      rw [hB, hany]
      have : r.toNat < 256 := by omega
      rw [decide_eq_true this, Bool.true_and])
    clear hz hg HZ hzs hany hB
    go_wp2_with fail
    go_loopw [9, 11, 58] (fun root _ i wr => ReAt2 zs r w5 root i wr) (fun _ _ i _ => zs.length - (intOf i).toNat)
    case atStart => exact ⟨0, Nat.zero_le _, rfl, rfl, rfl⟩
    case round =>
      obtain ⟨k, hk, rfl, rfl, rfl⟩ := hrel
      by_cases hlt : k < zs.length
      · have HST := Lib.hid (any_step zs r k hlt)
        obtain ⟨b1, off1, rfl, hb1, hcell⟩ := HZR.out.cells (by simp; omega)
        have hc1 : wr.cell? ⟨b1, off1 + k, none⟩ = some (.int .u8 ((co zs k).toNat : Int)) := hcell k _ (bytesV_get zs k hlt)
        have hcap := HZR.out.le
        have hcap2 := HZR.out.cap
        simp only [bytesV_length] at hcap
        unfold maxLen at hcap2
        clear hcell
        generalize co zs k = y at *
        have hyy := UInt8.toNat_lt y
        by_cases hyr : y = r
        · subst hyr
          have HST2 : Hid ((zs.take (k + 1)).any (· == y) = true) := Lib.hid (by rw [HST.out]; simp)
          clear HST
          generalize (zs.take k).any (· == y) = B0 at *
          cases B0 <;>
          · go_wp2_with fail
            go_roundw
            case rel => exact ⟨k + 1, by omega, by go_num, by rw [HST2.out], rfl⟩
            case measure => simp [intOf]; omega
        · have hyn : ¬ y.toNat = r.toNat := fun e => hyr (Gf.u8_ext e)
          have hyb : ((y.toNat : Int) == (r.toNat : Int)) = false := beq_false_of_ne (by omega)
          have hyd : decide ((y.toNat : Int) = (r.toNat : Int)) = false := decide_eq_false (by omega)
          have HST2 : Hid ((zs.take (k + 1)).any (· == r) = (zs.take k).any (· == r)) := Lib.hid (by rw [HST.out]; simp [hyr])
          clear HST
          generalize (zs.take k).any (· == r) = B0 at *
          cases B0 <;>
          · go_wp2_with fail
            go_roundw
            case rel => exact ⟨k + 1, by omega, by go_num, by rw [HST2.out], rfl⟩
            case measure => simp [intOf]; omega
      · obtain rfl : k = zs.length := by omega
        rw [List.take_length, HANY.out]
        obtain ⟨w6, hw6⟩ : ∃ w6, wr.alloc (.cells (bytesV [r, 1]).toArray 5) = w6 := ⟨_, rfl⟩
        have hb6 : Below wr.heap.size wr w6 := by rw [← hw6]; exact (Below.refl _ _).alloc (Nat.le_refl _) _
        have hr6 : RowV [r, 1] (.slice (some ⟨wr.heap.size, 0, none⟩) 2 2) w6 := by rw [← hw6]; exact ⟨_, _, rfl, row_cells (World.alloc_heap_new _ _) (by unfold maxLen; simp)⟩
        have HG6 := Lib.hid (Kit.step HG5.out hb6)
        have hmu := mul_rv (⟨_, _, rfl, HY5.out.later hb6⟩ : RowV Y (.slice o4 Y.length c4) w6) hr6 (by have := hyl.out; simp; omega)
        rw [← hw6] at hmu
        have HMU := Lib.hid hmu
        have HW6 := Lib.hid hw6
        have HR6 := Lib.hid (HR5.out.later hb6)
        clear hmu hr6 hb6 hw6
        go_wp2_with fail
        refine HMU.out.mono ?_; rintro e w7 ⟨m, rfl, hm, hg⟩
        rw [HW6.out] at hg
        have HG7 := Lib.hid (Kit.step HG6.out hg)
        have had := add_rv hm (⟨_, _, rfl, HR6.out.later hg⟩ : RowV ([]) (.slice o5 ([]).length c5) w7) (by have := hml.out; have := hyl.out; omega) (by simp)
        rw [HBK.out] at had
        have HAD := Lib.hid had
        clear had hm hg HMU HW6
        go_wp2_with fail
        refine HAD.out.mono ?_; rintro e w8 ⟨bk, rfl, hbk, hg⟩
        have HG8 := Lib.hid (Kit.step HG7.out hg)
        clear hg HAD
        go_wp2_with fail
        have hp : RowV p (.slice o p.length c) w8 := ⟨_, _, rfl, HP.out.later HG8.out⟩
        obtain ⟨vv, hvv⟩ : ∃ vv : UInt8, vv = 0 := ⟨_, rfl⟩
        have hv8 : (.int .u8 0 : Value) = .int .u8 (vv.toNat : Int) := by rw [hvv]; rfl
        have hB : B = decide (vv = 0) := by rw [hvv]; exact HB.out
        refine Rg.region_grow (by kernel_rfl) (ReG p B vv) (by kernel_rfl) ReG.later ?gd ?step ?fin
        case gd =>
          intro i op k t ho hg x v hG
          have hi := (Array.getElem?_eq_some_iff.1 ho).1
          match i, hi with
          | 0, _ =>
            obtain rfl := Option.some.inj ho
            cases hg
          | 1, _ =>
            obtain rfl := Option.some.inj ho
            cases hg
          | 2, _ =>
            obtain rfl := Option.some.inj ho
            cases hg
          | 3, _ =>
            obtain rfl := Option.some.inj ho
            cases hg
          | 4, _ =>
            obtain rfl := Option.some.inj ho
            cases hg
          | 5, _ =>
            obtain rfl := Option.some.inj ho
            obtain ⟨rfl, rfl⟩ : 4 = k ∧ true = t := by simpa using hg
            exact hG
          | 6, _ =>
            obtain rfl := Option.some.inj ho
            obtain ⟨rfl, rfl⟩ : 4 = k ∧ true = t := by simpa using hg
            exact hG
          | 7, _ =>
            obtain rfl := Option.some.inj ho
            obtain ⟨rfl, rfl⟩ : 4 = k ∧ true = t := by simpa using hg
            exact hG
          | 8, _ =>
            obtain rfl := Option.some.inj ho
            obtain ⟨rfl, rfl⟩ : 4 = k ∧ true = t := by simpa using hg
            exact hG
          | 9, _ =>
            obtain rfl := Option.some.inj ho
            obtain ⟨rfl, rfl⟩ : 4 = k ∧ true = t := by simpa using hg
            exact hG
          | 10, _ =>
            obtain rfl := Option.some.inj ho
            obtain ⟨rfl, rfl⟩ : 4 = k ∧ true = t := by simpa using hg
            exact hG
          | 11, _ =>
            obtain rfl := Option.some.inj ho
            cases hg
          | 12, _ =>
            obtain rfl := Option.some.inj ho
            cases hg
          | n + 13, h => exact absurd h (by simp)
        case step =>
          intro i op b v ho hb hrest hdep
          have r9 : b.eval (.tmp 9) = .bool B := hrest 9 (Rg.free_spec (by kernel_rfl))
          have r8 : b.eval (.tmp 8) = .int .u8 0 := hrest 8 (Rg.free_spec (by kernel_rfl))
          have r12 : b.eval (.tmp 12) = bk := hrest 12 (Rg.free_spec (by kernel_rfl))
          have r0 : b.eval (.tmp 0) = .slice o p.length c := hrest 0 (Rg.free_spec (by kernel_rfl))
          have r8 := r8.trans hv8
          have hi := (Array.getElem?_eq_some_iff.1 ho).1
          match i, hi with
          | 0, _ =>
            obtain rfl := Option.some.inj ho
            have d1 : b.eval (.tmp 9) = .bool B := r9
            exact Rg.does_move rfl d1
          | 1, _ =>
            obtain rfl := Option.some.inj ho
            have d1 : b.eval (.tmp 8) = .int .u8 (vv.toNat : Int) := r8
            exact Rg.does_move rfl d1
          | 2, _ =>
            obtain rfl := Option.some.inj ho
            have d1 : b.eval (.tmp 76) = .int .u8 (vv.toNat : Int) := hdep ⟨1, .data⟩ (by simp) rfl _ _ rfl rfl
            have f1 : b.tmps[76]?.getD undef = _ := (show _ = b.eval (.tmp 76) by simp [Act.eval]).trans d1
            refine Rg.does_pure (.bool B) ?_ rfl
            rw [hB]
            by_cases h0 : vv = 0
            · subst h0
              simp only [execOp]
              go_simp
            · have h1 : ¬ vv.toNat = 0 := fun e => h0 (Gf.u8_ext e)
              have hvl := UInt8.toNat_lt vv
              simp only [execOp]
              go_simp
          | 3, _ =>
            obtain rfl := Option.some.inj ho
            have d1 : (b.eval (.tmp 75)) = .bool B := hdep ⟨0, .data⟩ (by simp) rfl _ _ rfl rfl
            have d2 : (b.eval (.tmp 77)) = .bool B := hdep ⟨2, .data⟩ (by simp) rfl _ _ rfl rfl
            have f1 : b.tmps[75]?.getD undef = _ := (show _ = b.eval (.tmp 75) by simp [Act.eval]).trans d1
            have f2 : b.tmps[77]?.getD undef = _ := (show _ = b.eval (.tmp 77) by simp [Act.eval]).trans d2
            refine Rg.does_pure (.bool true) ?_ rfl
            simp only [execOp]
            go_simp
          | 4, _ =>
            obtain rfl := Option.some.inj ho
            have d1 : (b.eval (.tmp 78)) = .bool true := hdep ⟨3, .data⟩ (by simp) rfl _ _ rfl rfl
            exact Rg.does_move rfl d1
          | 5, _ =>
            obtain rfl := Option.some.inj ho
            have d1 : RowV (tr p) (b.eval (.tmp 12)) v := by rw [r12]; exact hbk.later hb
            exact Rg.does_move rfl d1
          | 6, _ =>
            obtain rfl := Option.some.inj ho
            have d1 : RowV (tr p) (b.eval (.tmp 80)) v := hdep ⟨5, .data⟩ (by simp) rfl _ _ rfl rfl
            exact Rg.does_conv rfl (conv_rv d1) (rfl)
          | 7, _ =>
            obtain rfl := Option.some.inj ho
            have d1 : RowV (p) (b.eval (.tmp 0)) v := by rw [r0]; exact hp.later hb
            exact Rg.does_move rfl d1
          | 8, _ =>
            obtain rfl := Option.some.inj ho
            have d1 : RowV (p) (b.eval (.tmp 82)) v := hdep ⟨7, .data⟩ (by simp) rfl _ _ rfl rfl
            exact Rg.does_fn rfl (enters_of Tryd.func15 (by kernel_rfl) rfl) (args := #[b.eval (.tmp 82)]) (by simp) (trim_rv d1 (by omega))
          | 9, _ =>
            obtain rfl := Option.some.inj ho
            have d1 : RowV (tr p) (b.eval (.tmp 83)) v := hdep ⟨8, .data⟩ (by simp) rfl _ _ rfl rfl
            exact Rg.does_conv rfl (conv_rv d1) (rfl)
          | 10, _ =>
            obtain rfl := Option.some.inj ho
            have d1 : (b.eval (.tmp 81)) = .string ⟨(tr p).toArray⟩ := hdep ⟨6, .data⟩ (by simp) rfl _ _ rfl rfl
            have d2 : (b.eval (.tmp 84)) = .string ⟨(tr p).toArray⟩ := hdep ⟨9, .data⟩ (by simp) rfl _ _ rfl rfl
            have f1 : b.tmps[81]?.getD undef = _ := (show _ = b.eval (.tmp 81) by simp [Act.eval]).trans d1
            have f2 : b.tmps[84]?.getD undef = _ := (show _ = b.eval (.tmp 84) by simp [Act.eval]).trans d2
            refine Rg.does_pure (.bool true) ?_ rfl
            have hu := Tryd.underlying9
            simp only [execOp]
            go_simp
          | 11, _ =>
            obtain rfl := Option.some.inj ho
            have d1 : (b.eval (.tmp 79)) = .bool true := hdep ⟨4, .data⟩ (by simp) rfl _ _ rfl rfl
            have d2 : (b.eval (.tmp 85)) = .bool true := hdep ⟨10, .data⟩ (by simp) rfl _ _ rfl rfl
            exact Rg.does_pick rfl d1 d2
          | 12, _ =>
            obtain rfl := Option.some.inj ho
            have d1 : (b.eval (.tmp 86)) = .bool true := hdep ⟨11, .data⟩ (by simp) rfl _ _ rfl rfl
            exact Rg.does_assign rfl d1
          | n + 13, h => exact absurd h (by simp)
        case fin =>
          intro b v2 hb2 hs hd hrest hall
          have h4 : b.tmps.getD 4 undef = .bool true := hall 12 _ 4 rfl rfl
          have HB := Lib.hid (Kit.step HG8.out hb2)
          go_wp2
          refine bodyPost_ret (results_tmp rfl _ _ _) hd ?_
          exact ⟨by rw [h4], HB.out⟩
  · rw [ev_single] at EV
    subst EV
    obtain ⟨bb, off, rfl, hbb, hcell⟩ := HR4.out.cells (by simp)
    have hc0 : w4.cell? ⟨bb, off + 0, none⟩ = some (.int .u8 (vv.toNat : Int)) := hcell 0 _ (bytesV_get [vv] 0 (by simp))
    rw [Nat.add_zero] at hc0
    have hcap := HR4.out.le
    have hcap2 := HR4.out.cap
    simp only [bytesV_length, List.length_cons, List.length_nil] at hcap
    unfold maxLen at hcap2
    clear hcell
    go_wp2_with fail
    refine HZ.out.mono ?_; rintro e w5 ⟨z, rfl, hz, hg⟩
    obtain ⟨o6, c6, rfl, hz⟩ := hz
    have HG5 := Lib.hid (Kit.step HG4.out hg)
    have HY5 := Lib.hid (HY4.out.later hg)
    have HR5 := Lib.hid (HR4.out.later hg)
    have hzl := zl_length p 256
    have hany := any_zl p r 256 (Nat.le_refl _)
    rw [← HVV.out] at hany
    obtain ⟨zs, hzs⟩ : ∃ zs, zs = zl p 256 := ⟨_, rfl⟩
    rw [← hzs] at hzl hz hany ⊢
    have HZR := Lib.hid hz
    obtain ⟨B, hB⟩ : ∃ B, B = zs.any (· == r) := ⟨_, rfl⟩
    have HANY : Hid (zs.any (· == r) = B) := Lib.hid hB.symm
    have HB : Hid (B = decide ((vv : UInt8) = 0)) := Lib.hid (by
      rw [hB, hany]
      have : r.toNat < 256 := by omega
      rw [decide_eq_true this, Bool.true_and])
    clear hz hg HZ hzs hany hB
    go_wp2_with fail
    go_loopw [9, 11, 58] (fun root _ i wr => ReAt2 zs r w5 root i wr) (fun _ _ i _ => zs.length - (intOf i).toNat)
    case atStart => exact ⟨0, Nat.zero_le _, rfl, rfl, rfl⟩
    case round =>
      obtain ⟨k, hk, rfl, rfl, rfl⟩ := hrel
      by_cases hlt : k < zs.length
      · have HST := Lib.hid (any_step zs r k hlt)
        obtain ⟨b1, off1, rfl, hb1, hcell⟩ := HZR.out.cells (by simp; omega)
        have hc1 : wr.cell? ⟨b1, off1 + k, none⟩ = some (.int .u8 ((co zs k).toNat : Int)) := hcell k _ (bytesV_get zs k hlt)
        have hcap := HZR.out.le
        have hcap2 := HZR.out.cap
        simp only [bytesV_length] at hcap
        unfold maxLen at hcap2
        clear hcell
        generalize co zs k = y at *
        have hyy := UInt8.toNat_lt y
        by_cases hyr : y = r
        · subst hyr
          have HST2 : Hid ((zs.take (k + 1)).any (· == y) = true) := Lib.hid (by rw [HST.out]; simp)
          clear HST
          generalize (zs.take k).any (· == y) = B0 at *
          cases B0 <;>
          · go_wp2_with fail
            go_roundw
            case rel => exact ⟨k + 1, by omega, by go_num, by rw [HST2.out], rfl⟩
            case measure => simp [intOf]; omega
        · have hyn : ¬ y.toNat = r.toNat := fun e => hyr (Gf.u8_ext e)
          have hyb : ((y.toNat : Int) == (r.toNat : Int)) = false := beq_false_of_ne (by omega)
          have hyd : decide ((y.toNat : Int) = (r.toNat : Int)) = false := decide_eq_false (by omega)
          have HST2 : Hid ((zs.take (k + 1)).any (· == r) = (zs.take k).any (· == r)) := Lib.hid (by rw [HST.out]; simp [hyr])
          clear HST
          generalize (zs.take k).any (· == r) = B0 at *
          cases B0 <;>
          · go_wp2_with fail
            go_roundw
            case rel => exact ⟨k + 1, by omega, by go_num, by rw [HST2.out], rfl⟩
            case measure => simp [intOf]; omega
      · obtain rfl : k = zs.length := by omega
        rw [List.take_length, HANY.out]
        obtain ⟨w6, hw6⟩ : ∃ w6, wr.alloc (.cells (bytesV [r, 1]).toArray 5) = w6 := ⟨_, rfl⟩
        have hb6 : Below wr.heap.size wr w6 := by rw [← hw6]; exact (Below.refl _ _).alloc (Nat.le_refl _) _
        have hr6 : RowV [r, 1] (.slice (some ⟨wr.heap.size, 0, none⟩) 2 2) w6 := by rw [← hw6]; exact ⟨_, _, rfl, row_cells (World.alloc_heap_new _ _) (by unfold maxLen; simp)⟩
        have HG6 := Lib.hid (Kit.step HG5.out hb6)
        have hmu := mul_rv (⟨_, _, rfl, HY5.out.later hb6⟩ : RowV Y (.slice o4 Y.length c4) w6) hr6 (by have := hyl.out; simp; omega)
        rw [← hw6] at hmu
        have HMU := Lib.hid hmu
        have HW6 := Lib.hid hw6
        have HR6 := Lib.hid (HR5.out.later hb6)
        clear hmu hr6 hb6 hw6
        go_wp2_with fail
        refine HMU.out.mono ?_; rintro e w7 ⟨m, rfl, hm, hg⟩
        rw [HW6.out] at hg
        have HG7 := Lib.hid (Kit.step HG6.out hg)
        have had := add_rv hm (⟨_, _, rfl, HR6.out.later hg⟩ : RowV ([vv]) (.slice (some ⟨bb, off, none⟩) ([vv]).length c5) w7) (by have := hml.out; have := hyl.out; omega) (by simp)
        rw [HBK.out] at had
        have HAD := Lib.hid had
        clear had hm hg HMU HW6
        go_wp2_with fail
        refine HAD.out.mono ?_; rintro e w8 ⟨bk, rfl, hbk, hg⟩
        have HG8 := Lib.hid (Kit.step HG7.out hg)
        clear hg HAD
        go_wp2_with fail
        have hp : RowV p (.slice o p.length c) w8 := ⟨_, _, rfl, HP.out.later HG8.out⟩
        have hB := HB.out
        refine Rg.region_grow (by kernel_rfl) (ReG p B vv) (by kernel_rfl) ReG.later ?gd ?step ?fin
        case gd =>
          intro i op k t ho hg x v hG
          have hi := (Array.getElem?_eq_some_iff.1 ho).1
          match i, hi with
          | 0, _ =>
            obtain rfl := Option.some.inj ho
            cases hg
          | 1, _ =>
            obtain rfl := Option.some.inj ho
            cases hg
          | 2, _ =>
            obtain rfl := Option.some.inj ho
            cases hg
          | 3, _ =>
            obtain rfl := Option.some.inj ho
            cases hg
          | 4, _ =>
            obtain rfl := Option.some.inj ho
            cases hg
          | 5, _ =>
            obtain rfl := Option.some.inj ho
            obtain ⟨rfl, rfl⟩ : 4 = k ∧ true = t := by simpa using hg
            exact hG
          | 6, _ =>
            obtain rfl := Option.some.inj ho
            obtain ⟨rfl, rfl⟩ : 4 = k ∧ true = t := by simpa using hg
            exact hG
          | 7, _ =>
            obtain rfl := Option.some.inj ho
            obtain ⟨rfl, rfl⟩ : 4 = k ∧ true = t := by simpa using hg
            exact hG
          | 8, _ =>
            obtain rfl := Option.some.inj ho
            obtain ⟨rfl, rfl⟩ : 4 = k ∧ true = t := by simpa using hg
            exact hG
          | 9, _ =>
            obtain rfl := Option.some.inj ho
            obtain ⟨rfl, rfl⟩ : 4 = k ∧ true = t := by simpa using hg
            exact hG
          | 10, _ =>
            obtain rfl := Option.some.inj ho
            obtain ⟨rfl, rfl⟩ : 4 = k ∧ true = t := by simpa using hg
            exact hG
          | 11, _ =>
            obtain rfl := Option.some.inj ho
            cases hg
          | 12, _ =>
            obtain rfl := Option.some.inj ho
            cases hg
          | n + 13, h => exact absurd h (by simp)
        case step =>
          intro i op b v ho hb hrest hdep
          have r9 : b.eval (.tmp 9) = .bool B := hrest 9 (Rg.free_spec (by kernel_rfl))
          have r8 : b.eval (.tmp 8) = .int .u8 (vv.toNat : Int) := hrest 8 (Rg.free_spec (by kernel_rfl))
          have r12 : b.eval (.tmp 12) = bk := hrest 12 (Rg.free_spec (by kernel_rfl))
          have r0 : b.eval (.tmp 0) = .slice o p.length c := hrest 0 (Rg.free_spec (by kernel_rfl))
          have hi := (Array.getElem?_eq_some_iff.1 ho).1
          match i, hi with
          | 0, _ =>
            obtain rfl := Option.some.inj ho
            have d1 : b.eval (.tmp 9) = .bool B := r9
            exact Rg.does_move rfl d1
          | 1, _ =>
            obtain rfl := Option.some.inj ho
            have d1 : b.eval (.tmp 8) = .int .u8 (vv.toNat : Int) := r8
            exact Rg.does_move rfl d1
          | 2, _ =>
            obtain rfl := Option.some.inj ho
            have d1 : b.eval (.tmp 76) = .int .u8 (vv.toNat : Int) := hdep ⟨1, .data⟩ (by simp) rfl _ _ rfl rfl
            have f1 : b.tmps[76]?.getD undef = _ := (show _ = b.eval (.tmp 76) by simp [Act.eval]).trans d1
            refine Rg.does_pure (.bool B) ?_ rfl
            rw [hB]
            by_cases h0 : vv = 0
            · subst h0
              simp only [execOp]
              go_simp
            · have h1 : ¬ vv.toNat = 0 := fun e => h0 (Gf.u8_ext e)
              have hvl := UInt8.toNat_lt vv
              simp only [execOp]
              go_simp
          | 3, _ =>
            obtain rfl := Option.some.inj ho
            have d1 : (b.eval (.tmp 75)) = .bool B := hdep ⟨0, .data⟩ (by simp) rfl _ _ rfl rfl
            have d2 : (b.eval (.tmp 77)) = .bool B := hdep ⟨2, .data⟩ (by simp) rfl _ _ rfl rfl
            have f1 : b.tmps[75]?.getD undef = _ := (show _ = b.eval (.tmp 75) by simp [Act.eval]).trans d1
            have f2 : b.tmps[77]?.getD undef = _ := (show _ = b.eval (.tmp 77) by simp [Act.eval]).trans d2
            refine Rg.does_pure (.bool true) ?_ rfl
            simp only [execOp]
            go_simp
          | 4, _ =>
            obtain rfl := Option.some.inj ho
            have d1 : (b.eval (.tmp 78)) = .bool true := hdep ⟨3, .data⟩ (by simp) rfl _ _ rfl rfl
            exact Rg.does_move rfl d1
          | 5, _ =>
            obtain rfl := Option.some.inj ho
            have d1 : RowV (tr p) (b.eval (.tmp 12)) v := by rw [r12]; exact hbk.later hb
            exact Rg.does_move rfl d1
          | 6, _ =>
            obtain rfl := Option.some.inj ho
            have d1 : RowV (tr p) (b.eval (.tmp 80)) v := hdep ⟨5, .data⟩ (by simp) rfl _ _ rfl rfl
            exact Rg.does_conv rfl (conv_rv d1) (rfl)
          | 7, _ =>
            obtain rfl := Option.some.inj ho
            have d1 : RowV (p) (b.eval (.tmp 0)) v := by rw [r0]; exact hp.later hb
            exact Rg.does_move rfl d1
          | 8, _ =>
            obtain rfl := Option.some.inj ho
            have d1 : RowV (p) (b.eval (.tmp 82)) v := hdep ⟨7, .data⟩ (by simp) rfl _ _ rfl rfl
            exact Rg.does_fn rfl (enters_of Tryd.func15 (by kernel_rfl) rfl) (args := #[b.eval (.tmp 82)]) (by simp) (trim_rv d1 (by omega))
          | 9, _ =>
            obtain rfl := Option.some.inj ho
            have d1 : RowV (tr p) (b.eval (.tmp 83)) v := hdep ⟨8, .data⟩ (by simp) rfl _ _ rfl rfl
            exact Rg.does_conv rfl (conv_rv d1) (rfl)
          | 10, _ =>
            obtain rfl := Option.some.inj ho
            have d1 : (b.eval (.tmp 81)) = .string ⟨(tr p).toArray⟩ := hdep ⟨6, .data⟩ (by simp) rfl _ _ rfl rfl
            have d2 : (b.eval (.tmp 84)) = .string ⟨(tr p).toArray⟩ := hdep ⟨9, .data⟩ (by simp) rfl _ _ rfl rfl
            have f1 : b.tmps[81]?.getD undef = _ := (show _ = b.eval (.tmp 81) by simp [Act.eval]).trans d1
            have f2 : b.tmps[84]?.getD undef = _ := (show _ = b.eval (.tmp 84) by simp [Act.eval]).trans d2
            refine Rg.does_pure (.bool true) ?_ rfl
            have hu := Tryd.underlying9
            simp only [execOp]
            go_simp
          | 11, _ =>
            obtain rfl := Option.some.inj ho
            have d1 : (b.eval (.tmp 79)) = .bool true := hdep ⟨4, .data⟩ (by simp) rfl _ _ rfl rfl
            have d2 : (b.eval (.tmp 85)) = .bool true := hdep ⟨10, .data⟩ (by simp) rfl _ _ rfl rfl
            exact Rg.does_pick rfl d1 d2
          | 12, _ =>
            obtain rfl := Option.some.inj ho
            have d1 : (b.eval (.tmp 86)) = .bool true := hdep ⟨11, .data⟩ (by simp) rfl _ _ rfl rfl
            exact Rg.does_assign rfl d1
          | n + 13, h => exact absurd h (by simp)
        case fin =>
          intro b v2 hb2 hs hd hrest hall
          have h4 : b.tmps.getD 4 undef = .bool true := hall 12 _ 4 rfl rfl
          have HB := Lib.hid (Kit.step HG8.out hb2)
          go_wp2
          refine bodyPost_ret (results_tmp rfl _ _ _) hd ?_
          exact ⟨by rw [h4], HB.out⟩
theorem rem_long (p : List UInt8) (r : UInt8) (o : Option Addr) (c : Nat) (w : World) (hl : 60 < p.length) (h1 : p.length ≤ 9223372036854775807) :
    Calls Tryd.prog 4 #[.slice o p.length c, .int .u8 (r.toNat : Int)] w fun e w' => e = .returned (.bool true) ∧ Below w.heap.size w w' := by
  go_enter Tryd.func4, Tryd.ntmps4
  go_wp2_with fail
  refine (alive2_any _).mono ?_; rintro e w1 ⟨rfl, hg⟩
  have HG := Lib.hid hg
  clear hg
  go_wp2_with fail
  go_ret
  exact ⟨rfl, HG.out⟩
theorem rem_walk (p : List UInt8) (r : UInt8) (o : Option Addr) (c : Nat) (w : World) (hP : RowIs w o (bytesV p) c) :
    Calls Tryd.prog 4 #[.slice o p.length c, .int .u8 (r.toNat : Int)] w fun e w' => e = .returned (.bool true) ∧ Below w.heap.size w w' := by
  by_cases hl : 60 < p.length
  · have h1 := hP.le
    have h2 := hP.cap
    simp only [bytesV_length] at h1
    unfold maxLen at h2
    exact rem_long p r o c w hl (by omega)
  · exact rem_short p r o c w hP (by omega)
end Go.Proofs.YthbmbobjalgafaaDoor
