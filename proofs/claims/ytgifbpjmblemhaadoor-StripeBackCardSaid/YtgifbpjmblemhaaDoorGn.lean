/- The document's generator. The document's parity symbols: long division leaves what makes a code word. The document's syndromes. -/
import Derived.Test.YtgifbpjmblemhaaDoorGf
import Derived.Test.YtgifbpjmblemhaaDoorRr
import Derived.Test.YtgifbpjmblemhaaDoorTm
import Derived.Test.YtgifbpjmblemhaaDoorMu
import Derived.Test.YtgifbpjmblemhaaDoorApw
import Derived.Deep.Onto
import Derived.Test.YtgifbpjmblemhaaDoorFwm
namespace Go.Proofs.YtgifbpjmblemhaaDoor
open Go.RowKit
set_option linter.unusedVariables false
set_option linter.unusedSimpArgs false
/-- times (x + r) -/
def nx (G : List UInt8) (r : UInt8) : List UInt8 := tab (fun m => Gf.gm (co G m) r ^^^ (if m = 0 then 0 else co G (m - 1))) (G.length + 1)
def genL : Nat → List UInt8
  | 0 => [1]
  | k + 1 => nx (genL k) (Gf.al k)
theorem genL_length (k : Nat) : (genL k).length = k + 1 := by
  induction k with
  | zero => rfl
  | succ k ih => simp [genL, nx, ih]
theorem co_nx (G : List UInt8) (r : UInt8) (m : Nat) : co (nx G r) m = Gf.gm (co G m) r ^^^ (if m = 0 then 0 else co G (m - 1)) :=
  co_tab' _ _ _ fun j hj => by
    rw [co_ge (by omega), Gf.zero_gm, if_neg (by omega), co_ge (by omega)]; rfl
theorem ev_nx (G : List UInt8) (r x : UInt8) : evL (nx G r) x = Gf.gm (evL G x) (r ^^^ x) := by
  have h : ∀ m, co (nx G r) m = Gf.gm (co G m) r ^^^ Gf.ps 1 (co G) m := fun m => by
    rw [co_nx]
    unfold Gf.ps
    congr 1
    by_cases e : m = 0
    · rw [if_pos e, if_neg (by omega)]
    · rw [if_neg e, if_pos (by omega)]
  have hl : (nx G r).length = G.length + 1 := by simp [nx]
  unfold evL
  rw [hl, Gf.ev_congr (fun i _ => h i), Gf.ev_xor]
  rw [Nat.add_comm G.length 1, Gf.ev_ps, Gf.gm_xor, Gf.ev_congr (g := fun i => Gf.gm r (co G i)) (fun i _ => Gf.gm_comm _ _), Gf.ev_gm]
  rw [Gf.ev_more (n := G.length) (m := 1 + G.length) (by omega) (fun i hi => co_ge hi), Gf.gm_comm r, show Gf.px x 1 = x by show Gf.gm 1 x = x; exact Gf.one_gm x, Gf.gm_comm x]
theorem gen_root (k j : Nat) (h : j < k) : evL (genL k) (Gf.al j) = 0 := by
  induction k with
  | zero => omega
  | succ k ih =>
    rw [genL, ev_nx]
    by_cases e : j = k
    · rw [e, UInt8.xor_self, Gf.gm_zero]
    · rw [ih (by omega), Gf.zero_gm]
theorem gen_top (k : Nat) : co (genL k) k = 1 := by
  induction k with
  | zero => rfl
  | succ k ih => rw [genL, co_nx, co_ge (by rw [genL_length]; omega), Gf.zero_gm, if_neg (by omega), Nat.add_sub_cancel, ih]; rfl
/-- the next one, when i coefficients have been added -/
def nxAt (G : List UInt8) (r : UInt8) (i : Nat) : List UInt8 := tab (fun m => (if m < i then Gf.gm (co G m) r else 0) ^^^ (if 1 ≤ m ∧ m ≤ i then co G (m - 1) else 0)) (G.length + 1)
@[simp] theorem nxAt_length (G : List UInt8) (r : UInt8) (i : Nat) : (nxAt G r i).length = G.length + 1 := by simp [nxAt]
theorem co_nxAt (G : List UInt8) (r : UInt8) (i m : Nat) (h : m < G.length + 1) : co (nxAt G r i) m = (if m < i then Gf.gm (co G m) r else 0) ^^^ (if 1 ≤ m ∧ m ≤ i then co G (m - 1) else 0) := co_tab _ _ _ h
theorem nxAt_zero (G : List UInt8) (r : UInt8) : nxAt G r 0 = List.replicate (G.length + 1) 0 := by
  refine list_ext (by simp) fun i hi => ?_
  simp at hi
  rw [co_nxAt _ _ _ _ hi, if_neg (by omega), if_neg (by omega)]
  simp [co, List.getD_eq_getElem?_getD, List.getElem?_replicate, hi]
theorem nxAt_full (G : List UInt8) (r : UInt8) : nxAt G r G.length = nx G r := by
  refine list_ext (by simp [nx]) fun i hi => ?_
  simp at hi
  rw [co_nxAt _ _ _ _ hi, co_nx]
  congr 1
  · by_cases e : i < G.length
    · rw [if_pos e]
    · rw [if_neg e, co_ge (by omega), Gf.zero_gm]
  · by_cases e : i = 0
    · rw [if_pos e, if_neg (by omega)]
    · rw [if_neg e, if_pos (by omega)]
theorem nxAt_one (G : List UInt8) (r : UInt8) (i : Nat) (h : i < G.length) : co (nxAt G r i) i = (if i = 0 then 0 else co G (i - 1)) := by
  rw [co_nxAt _ _ _ _ (by omega), if_neg (by omega), UInt8.zero_xor]
  by_cases e : i = 0
  · rw [if_pos e, if_neg (by omega)]
  · rw [if_neg e, if_pos (by omega)]
theorem nxAt_two (G : List UInt8) (r : UInt8) (i : Nat) (h : i < G.length) : co (nxAt G r i) (i + 1) = 0 := by
  rw [co_nxAt _ _ _ _ (by omega), if_neg (by omega), if_neg (by omega)]; rfl
theorem nxAt_step (G : List UInt8) (r : UInt8) (i : Nat) (h : i < G.length) (s : UInt8) (hs : s = co (nxAt G r i) i ^^^ Gf.gm (co G i) r) : ((nxAt G r i).set i s).set (i + 1) (co G i) = nxAt G r (i + 1) := by
  refine list_ext (by simp) fun m hm => ?_
  simp at hm
  rw [co_nxAt _ _ _ _ hm, co_set, co_set]
  by_cases e1 : i + 1 = m
  · subst e1
    rw [if_pos ⟨rfl, by simp; omega⟩, if_neg (by omega), if_pos (by omega), UInt8.zero_xor, Nat.add_sub_cancel]
  · rw [if_neg (fun h => e1 h.1)]
    by_cases e2 : i = m
    · subst e2
      have e3 : (if i < i + 1 then Gf.gm (co G i) r else 0) = Gf.gm (co G i) r := if_pos (by omega)
      have e4 : (if 1 ≤ i ∧ i ≤ i + 1 then co G (i - 1) else 0) = (if i = 0 then 0 else co G (i - 1)) := by
        by_cases e : i = 0
        · rw [if_pos e, if_neg (by omega)]
        · rw [if_neg e, if_pos (by omega)]
      rw [if_pos ⟨rfl, by simp; omega⟩, hs, nxAt_one _ _ _ h, e3, e4, UInt8.xor_comm]
    · rw [if_neg (fun h => e2 h.1), co_nxAt _ _ _ _ hm]
      congr 1
      · by_cases e : m < i
        · rw [if_pos e, if_pos (by omega)]
        · rw [if_neg e, if_neg (by omega)]
      · by_cases e : 1 ≤ m ∧ m ≤ i
        · rw [if_pos e, if_pos (by omega)]
        · rw [if_neg e, if_neg (by omega)]
def GnAt (w : World) (v r i : Value) (wr : World) : Prop :=
  ∃ k : Nat, k ≤ 32 ∧ i = .int .i64 k ∧ r = .int .u8 ((Gf.al k).toNat : Int) ∧ RowV (genL k) v wr ∧ Below w.heap.size w wr
def GiAt (G : List UInt8) (r : UInt8) (w : World) (g : Nat) (i : Value) (wr : World) : Prop :=
  ∃ k : Nat, k ≤ G.length ∧ i = .int .i64 k ∧ Buf wr g (G.length + 1) (nxAt G r k) ∧ Only g w wr
set_option maxRecDepth 100000 in
set_option maxHeartbeats 2000000 in
theorem rgen_any (w : World) : Calls Tryd.prog 41 #[] w (Rows (genL 32) w) := by
  have hb0 : Below w.heap.size w (w.alloc (.cells (bytesV [1]).toArray 5)) := (Below.refl _ _).alloc (Nat.le_refl _) _
  have hr0 : RowV (genL 0) (.slice (some ⟨w.heap.size, 0, none⟩) 1 1) (w.alloc (.cells (bytesV [1]).toArray 5)) := ⟨_, _, rfl, row_cells (World.alloc_heap_new _ _) (by unfold maxLen; simp [genL])⟩
  have HB0 := Lib.hid hb0
  have HR0 := Lib.hid hr0
  obtain ⟨i0, hi, hz0, hz1, hz2⟩ := info_parts info_u8
  clear hb0 hr0
  go_enter Tryd.func41, Tryd.ntmps41
  go_wp2_with fail
  go_loopw [1, 2, 3] (fun v r i wr => GnAt w v r i wr) (fun _ _ i _ => 32 - (intOf i).toNat)
  case atStart => exact ⟨0, Nat.zero_le _, rfl, rfl, HR0.out, HB0.out⟩
  case round =>
    rename World => W1
    obtain ⟨k, hk, rfl, rfl, hr, hb⟩ := hrel
    by_cases hlt : k < 32
    · have hd1 : decide ((k : Int) < 32) = true := by simpa using (by omega : (k : Int) < 32)
      have hgl := genL_length k
      have HG : Hid (genL (k + 1) = nx (genL k) (Gf.al k)) := Lib.hid rfl
      have HA : Hid (∀ v : World, Calls Tryd.prog 42 #[.int .u8 ((Gf.al k).toNat : Int), .int .u8 2] v fun e w' => e = .returned (.int .u8 ((Gf.al (k + 1)).toNat : Int)) ∧ w' = v) := Lib.hid fun v => by
        have := rmul_u8 (Gf.al k) (Gf.al 1) v
        rw [Gf.gm_al] at this
        exact this
      obtain ⟨o, c, rfl, hr⟩ := hr
      have h3 := hr.le
      have h4 := hr.cap
      simp only [bytesV_length] at h3
      unfold maxLen at h4
      have HR := Lib.hid hr
      have HB := Lib.hid hb
      clear hr hb
      have hrl := UInt8.toNat_lt (Gf.al k)
      generalize Gf.al k = r at *
      have HGL := Lib.hid hgl
      have hn : (genL k).length ≤ 33 := by omega
      clear hgl
      generalize genL k = G at *
      go_wp2_with (at_make; refine wpList_make_full _ rfl _ _ 22 rfl 0 5 i0 (.int .u8 0) 1 Tryd.underlying22 hi hz0 hz1 _ _ _ _ (G.length + 1) rfl rfl (by omega) (by omega) (by rw [hz2]; omega) (by unfold maxLen; omega) (Nat.zero_le _) ?_)
      intro w2 hown hgrow
      have hb2 : Below W1.heap.size W1 w2 := (Below.refl _ _).grown hgrow (Nat.le_refl _) (fun k h => by cases h)
      have hbuf : Buf w2 W1.heap.size (G.length + 1) (nxAt G r 0) := by rw [nxAt_zero]; exact buf_made hown
      have HB2 := Lib.hid hb2
      have HBF := Lib.hid hbuf
      have HR2 := Lib.hid (HR.out.later hb2)
      have HAP := Lib.hid (HR.out.apart (Nat.le_refl W1.heap.size))
      clear hown hgrow hb2 hbuf
      obtain ⟨g, hg⟩ : ∃ g, W1.heap.size = g := ⟨_, rfl⟩
      rw [hg] at HBF HAP ⊢
      have HGE := Lib.hid hg
      clear hg
      go_wp2_with fail
      go_loopw [18] (fun i wr => GiAt G r w2 g i wr) (fun i _ => G.length - (intOf i).toNat)
      case atStart => exact ⟨0, Nat.zero_le _, rfl, HBF.out, Only.refl _ _⟩
      case round =>
        rename World => W3
        obtain ⟨j, hj, rfl, hbf, ho⟩ := hrel
        have HR3 := Lib.hid (ho.row HR2.out HAP.out)
        have HO := Lib.hid ho
        have HBJ := Lib.hid hbf
        by_cases hjl : j < G.length
        · obtain ⟨b1, off1, rfl, hb1, hcell⟩ := HR3.out.cells (by simp; omega)
          have hc1 : W3.cell? ⟨b1, off1 + j, none⟩ = some (.int .u8 ((co G j).toNat : Int)) := hcell j _ (bytesV_get G j hjl)
          have hc2 := hbf.cell j (by simp; omega)
          have hf2 := hbf.frozen j
          have hdr := hbf.later ((Below.refl W3.heap.size W3).drew)
          have hst := hdr.store j (co (nxAt G r j) j ^^^ Gf.gm (co G j) r)
          have hce := hst.1.cell (j + 1) (by simp; omega)
          rw [co_set, if_neg (by omega), nxAt_two _ _ _ hjl] at hce
          have hfe := hst.1.frozen (j + 1)
          have hst2 := hst.1.store (j + 1) (co G j)
          have hc3 := (Only.row hst.2 (HR3.out.later ((Below.refl W3.heap.size W3).drew)) HAP.out).cells
          rw [nxAt_step _ _ _ hjl _ rfl] at hst2
          have HS2 := Lib.hid hst2
          have HS1 := Lib.hid hst.2
          have hx := u8c (co (nxAt G r j) j) (Gf.gm (co G j) r)
          have MC : Hid (∀ v : World, Calls Tryd.prog 42 #[.int .u8 ((co G j).toNat : Int), .int .u8 (r.toNat : Int)] v fun e w' => e = .returned (.int .u8 ((Gf.gm (co G j) r).toNat : Int)) ∧ w' = v) := Lib.hid fun v => rmul_u8 _ _ v
          clear hcell hbf ho hst hst2 hdr hc3
          generalize Gf.gm (co G j) r = t at *
          generalize co (nxAt G r j) j = s at *
          generalize s ^^^ t = q at *
          generalize hy : co G j = y at *
          have hyl := UInt8.toNat_lt y
          have hsl := UInt8.toNat_lt s
          have htl := UInt8.toNat_lt t
          have HY := Lib.hid hy
          have hx2 : bits .xor .u8 0 (y.toNat : Int) = (y.toNat : Int) := by
            have := u8c 0 y
            rw [UInt8.zero_xor] at this
            exact this
          clear hy
          obtain ⟨w5, hw5⟩ : ∃ w5, W3.drew.setCell ⟨g, j, none⟩ (.int .u8 (q.toNat : Int)) = w5 := ⟨_, rfl⟩
          rw [hw5] at hce hfe HS2 HS1
          have HW5 := Lib.hid hw5
          clear hw5
          go_wp2_with fail
          go_region_with (go_at_call 42; refine (MC.out _).mono ?_; rintro e w' ⟨rfl, rfl⟩)
          all_goals
            rw [show (W3.setCell ⟨g, j, none⟩ (.int .u8 (q.toNat : Int))).drew = w5 from HW5.out]
            go_wp2
            go_roundw
            case rel => exact ⟨j + 1, by omega, by go_num, HS2.out.1, HO.out.trans ((Only.of_below (Below.refl W3.heap.size W3).drew).trans (HS1.out.trans HS2.out.2))⟩
            case measure => simp [intOf]; omega
        · obtain rfl : j = G.length := by omega
          rw [nxAt_full] at hbf
          have hrow := hbf.row
          have hbw : Below w.heap.size w W3 := Kit.step HB.out ((HB2.out).trans (ho.below (by rw [HGE.out]; exact Nat.le_refl _) HB2.out.size))
          have HROW := Lib.hid hrow
          have HBW := Lib.hid hbw
          clear HBJ hbf ho hrow hbw
          go_wp2_with fail
          refine (HA.out _).mono ?_; rintro e w' ⟨rfl, rfl⟩
          go_wp2_with fail
          go_roundw
          case rel => exact ⟨k + 1, by omega, by go_num, rfl, ⟨some ⟨g, 0, none⟩, G.length + 1, by rw [HG.out]; simp [nx], by rw [HG.out]; exact HROW.out⟩, HBW.out⟩
          case measure => simp [intOf]; omega
    · obtain rfl : k = 32 := by omega
      have HR := Lib.hid hr
      have HB := Lib.hid hb
      clear hr hb
      go_wp2_with fail
      go_ret
      exact ⟨_, rfl, HR.out, HB.out⟩
end Go.Proofs.YtgifbpjmblemhaaDoor
namespace Go.Proofs.YtgifbpjmblemhaaDoor
open Go.RowKit
set_option linter.unusedVariables false
set_option linter.unusedSimpArgs false
/-- a row when k coefficients, the highest first, of a polynomial times a number have been added from place i on -/
def mixr (R G : List UInt8) (i : Nat) (y : UInt8) (k : Nat) : List UInt8 := tab (fun m => co R m ^^^ (if i ≤ m ∧ m < i + k then Gf.gm y (co G (32 - (m - i))) else 0)) R.length
@[simp] theorem mixr_length (R G : List UInt8) (i : Nat) (y : UInt8) (k : Nat) : (mixr R G i y k).length = R.length := by simp [mixr]
theorem co_mixr (R G : List UInt8) (i : Nat) (y : UInt8) (k m : Nat) (h : m < R.length) : co (mixr R G i y k) m = co R m ^^^ (if i ≤ m ∧ m < i + k then Gf.gm y (co G (32 - (m - i))) else 0) := co_tab _ _ _ h
theorem mixr_zero (R G : List UInt8) (i : Nat) (y : UInt8) : mixr R G i y 0 = R := list_ext (by simp) fun m hm => by
  simp at hm
  rw [co_mixr _ _ _ _ _ _ hm, if_neg (by omega), UInt8.xor_zero]
theorem mixr_none (R G : List UInt8) (i k : Nat) : mixr R G i 0 (k + 1) = mixr R G i 0 k := list_ext (by simp) fun m hm => by
  simp at hm
  rw [co_mixr _ _ _ _ _ _ hm, co_mixr _ _ _ _ _ _ hm, Gf.zero_gm]
  simp
theorem mixr_step (R G : List UInt8) (i : Nat) (y : UInt8) (k : Nat) (h : i + k < R.length) : (mixr R G i y k).set (i + k) (co (mixr R G i y k) (i + k) ^^^ Gf.gm y (co G (32 - k))) = mixr R G i y (k + 1) := list_ext (by simp) fun m hm => by
  simp at hm
  rw [co_set, co_mixr R G i y (k + 1) m hm]
  by_cases e : i + k = m
  · subst e
    have e1 : co (mixr R G i y k) (i + k) = co R (i + k) := by rw [co_mixr R G i y k _ hm, if_neg (by omega), UInt8.xor_zero]
    rw [if_pos ⟨rfl, by simpa using hm⟩, e1, if_pos (by omega), show i + k - i = k by omega]
  · rw [if_neg (fun h => e h.1), co_mixr R G i y k m hm]
    by_cases e2 : i ≤ m ∧ m < i + k
    · rw [if_pos e2, if_pos (by omega)]
    · rw [if_neg e2, if_neg (by omega)]
theorem co_app (a b : List UInt8) (m : Nat) : co (a ++ b) m = if m < a.length then co a m else co b (m - a.length) := by
  simp only [co, List.getD_eq_getElem?_getD]
  by_cases h : m < a.length
  · rw [if_pos h, List.getElem?_append_left h]
  · rw [if_neg h, List.getElem?_append_right (by omega)]
theorem co_sumW (a b : List UInt8) (h : a.length = b.length) (m : Nat) : co (Gf.sumW a b) m = co a m ^^^ co b m := by
  by_cases hm : m < a.length
  · simp [co, Gf.sumW, List.getD_eq_getElem?_getD, List.getElem?_zipWith, hm, show m < b.length by omega]
  · rw [co_ge (by simp [Gf.sumW]; omega), co_ge (by omega), co_ge (by omega)]; rfl
theorem co_zeros (n m : Nat) : co (List.replicate n 0) m = 0 := by
  simp only [co, List.getD_eq_getElem?_getD, List.getElem?_replicate]
  split <;> rfl
theorem co_map (y : UInt8) (a : List UInt8) (m : Nat) : co (a.map (Gf.gm y)) m = Gf.gm y (co a m) := by
  by_cases hm : m < a.length
  · simp [co, List.getD_eq_getElem?_getD, hm]
  · rw [co_ge (by simpa using hm), co_ge (by omega), Gf.gm_zero]
theorem co_rev (a : List UInt8) (m : Nat) (h : m < a.length) : co a.reverse m = co a (a.length - 1 - m) := by
  simp [co, List.getD_eq_getElem?_getD, h, List.getElem?_reverse, show a.length - 1 - m < a.length by omega]
/-- the whole of it leaves the values where the polynomial is 0 -/
theorem mixr_hv (R G : List UInt8) (i : Nat) (y x : UInt8) (hG : G.length = 33) (h : i + 33 ≤ R.length) (hx : evL G x = 0) : Gf.hv x (mixr R G i y 33) = Gf.hv x R := by
  have hl : R.length = (List.replicate i 0 ++ (G.reverse.map (Gf.gm y) ++ List.replicate (R.length - i - 33) 0)).length := by simp [hG]; omega
  have e : mixr R G i y 33 = Gf.sumW R (List.replicate i 0 ++ (G.reverse.map (Gf.gm y) ++ List.replicate (R.length - i - 33) 0)) := by
    refine list_ext (by simp [Gf.sumW, hG]; omega) fun m hm => ?_
    simp at hm
    rw [co_mixr _ _ _ _ _ _ hm, co_sumW _ _ hl]
    congr 1
    rw [co_app]
    simp only [List.length_replicate]
    by_cases e1 : m < i
    · rw [if_pos e1, if_neg (by omega), co_zeros]
    · rw [if_neg e1, co_app]
      simp only [List.length_map, List.length_reverse, hG]
      by_cases e2 : m - i < 33
      · rw [if_pos e2, if_pos (by omega), co_map, co_rev _ _ (by omega), hG]
      · rw [if_neg e2, if_neg (by omega), co_zeros]
  rw [e, Gf.hv_sum _ _ _ hl, Gf.hv_app, Gf.hv_zeros, Gf.zero_gm, Gf.hv_app, Gf.hv_scale, hv_reverse, hx, Gf.gm_zero, Gf.zero_gm, Gf.hv_zeros]
  simp
/-- between the rounds -/
structure PR (d R : List UInt8) (i : Nat) : Prop where
  len : R.length = d.length + 32
  same : ∀ j, j < 32 → Gf.hv (Gf.al j) R = Gf.hv (Gf.al j) (d ++ List.replicate 32 0)
  low : ∀ m, m < i → co R m = 0
theorem PR.step {d R : List UInt8} {i : Nat} (h : PR d R i) (hi : i < d.length) : PR d (mixr R (genL 32) i (co R i) 33) (i + 1) := by
  have hl := h.len
  refine ⟨by simpa using hl, fun j hj => ?_, fun m hm => ?_⟩
  · rw [mixr_hv _ _ _ _ _ (genL_length 32) (by omega) (gen_root 32 j hj)]
    exact h.same j hj
  · rw [co_mixr _ _ _ _ _ _ (by omega)]
    by_cases e : m = i
    · subst e
      rw [if_pos (by omega), Nat.sub_self, Nat.sub_zero, gen_top 32, Gf.gm_one, UInt8.xor_self]
    · rw [if_neg (by omega), h.low m (by omega)]; rfl
theorem PR.done {d R : List UInt8} (h : PR d R d.length) : (R.drop d.length).length = 32 ∧ IsCode (d ++ R.drop d.length) := by
  have hl := h.len
  have hr : (R.drop d.length).length = 32 := by simp; omega
  refine ⟨hr, fun j hj => ?_⟩
  have e : R = List.replicate d.length 0 ++ R.drop d.length := by
    refine list_ext (by simp; omega) fun m hm => ?_
    rw [co_app]
    simp only [List.length_replicate]
    by_cases e1 : m < d.length
    · rw [if_pos e1, co_zeros, h.low m e1]
    · rw [if_neg e1]
      simp [co, List.getD_eq_getElem?_getD, show d.length + (m - d.length) = m by omega]
  have h1 := h.same j hj
  rw [e, Gf.hv_app, Gf.hv_zeros, Gf.zero_gm, UInt8.zero_xor, Gf.hv_app, Gf.hv_zeros, UInt8.xor_zero, List.length_replicate] at h1
  rw [Gf.hv_app, hr, h1, UInt8.xor_self]
theorem Buf.drop {W : World} {g cap : Nat} {ys : List UInt8} (h : Buf W g cap ys) (n : Nat) (hn : n ≤ ys.length) : RowIs W (some ⟨g, n, none⟩) (bytesV (ys.drop n)) (cap - n) :=
  ⟨by have := h.le; simp; omega, by have := h.le; omega, fun h => (by cases h), fun h0 => ⟨g, n, rfl, h.lt, fun i v hv => by
    have hi : i < (ys.drop n).length := by
      have := (List.getElem?_eq_some_iff.1 hv).1
      simpa using this
    simp at hi
    have h1 := h.cell (n + i) (by omega)
    have h2 := bytesV_get (ys.drop n) i (by simp; omega)
    rw [h2] at hv
    rw [h1, ← hv]
    simp [co, List.getD_eq_getElem?_getD]⟩⟩
theorem PR.start (d : List UInt8) : PR d (d ++ List.replicate 32 0) 0 := ⟨by simp, fun _ _ => rfl, fun m h => absurd h (by omega)⟩
def PoAt (d : List UInt8) (g cap : Nat) (w : World) (iv : Value) (wr : World) : Prop :=
  ∃ (i : Nat) (R : List UInt8), i ≤ d.length ∧ iv = .int .i64 i ∧ PR d R i ∧ Buf wr g cap R ∧ Only g w wr
def PiAt (R : List UInt8) (i : Nat) (y : UInt8) (g cap : Nat) (w : World) (kv : Value) (wr : World) : Prop :=
  ∃ k : Nat, k ≤ 33 ∧ kv = .int .i64 k ∧ Buf wr g cap (mixr R (genL 32) i y k) ∧ Only g w wr
def ParTo (d : List UInt8) (w : World) (e : Ending) (w' : World) : Prop :=
  ∃ r x, r.length = 32 ∧ IsCode (d ++ r) ∧ e = .returned (.tuple #[x, .int .i64 0]) ∧ RowV r x w' ∧ Below w.heap.size w w'
/-- the same, and its block is of bytes -/
def ParToK (d : List UInt8) (w : World) (e : Ending) (w' : World) : Prop :=
  ∃ r x, r.length = 32 ∧ IsCode (d ++ r) ∧ e = .returned (.tuple #[x, .int .i64 0]) ∧ RowV r x w' ∧ Below w.heap.size w w' ∧ ∃ g off q cur, x = .slice (some ⟨g, off, none⟩) 32 q ∧ w'.heap[g]? = some (.cells cur 5 (0, 0))
set_option maxRecDepth 100000 in
set_option maxHeartbeats 4000000 in
theorem rpar_kind (d : List UInt8) (o : Option Addr) (c : Nat) (w : World) (hP : RowIs w o (bytesV d) c) (hl1 : 1 ≤ d.length) (hl2 : d.length ≤ 223) :
    Calls Tryd.prog 26 #[.slice o d.length c] w (ParToK d w) := by
  have h1 := hP.le
  have h2 := hP.cap
  simp only [bytesV_length] at h1
  unfold maxLen at h2
  have HP := Lib.hid hP
  clear hP
  have hd1 : decide ((d.length : Int) < 1) = false := decide_eq_false (by omega)
  have hd2 : decide ((223 : Int) < (d.length : Int)) = false := decide_eq_false (by omega)
  go_enter Tryd.func26, Tryd.ntmps26
  go_wp2_with fail
  refine (rgen_any w).mono ?_; rintro e w1 ⟨gv, rfl, hg, hb⟩
  have HG1 := Lib.hid hg
  have HB1 := Lib.hid hb
  have HPE : Hid (RowIs (w1.alloc (.cells #[] 5)) o (bytesV d) c) := Lib.hid ((HP.out.later hb).later ((Below.refl _ _).alloc (Nat.le_refl _) _))
  have HOWN : Hid ((w1.alloc (.cells #[] 5)).ownsRow w1.heap.size 5 1 (.slice (some ⟨w1.heap.size, 0, none⟩) 0 0) 0 (bytesV [])) := Lib.hid (World.ownsRow_lit w1 #[] 0 (Nat.le_refl _) (Nat.zero_le _) rfl)
  have HBE : Hid (Below w1.heap.size w1 (w1.alloc (.cells #[] 5))) := Lib.hid ((Below.refl _ _).alloc (Nat.le_refl _) _)
  clear hg hb
  go_wp2_with (at_builtin; refine append_row rfl (.tmp 18) (.tmp 19) rfl w1.heap.size _ 0 [] rfl HOWN.out o d.length c d rfl rfl HPE.out (by omega) HBE.out.size ?_)
  intro v2 w2 hv hgr
  have hb2 := own_below (n := 0) HBE.out HOWN.out hgr
  have HV2 : Hid (w2.ownsRow w1.heap.size 5 1 v2 d.length (bytesV d)) := Lib.hid (by simpa using hv)
  have HB2 := Lib.hid hb2
  clear hv hgr hb2 HOWN HBE HPE
  refine append_zeros rfl (.tmp 20) (.const (.int .i64 32)) rfl w1.heap.size _ d.length d rfl HV2.out 32 (by omega) rfl (by omega) (by omega) HB2.out.size ?_
  intro v3 w3 hv hgr
  have hb3 := own_below (n := 0) HB2.out HV2.out hgr
  have hw3 : Below w.heap.size w w3 := Kit.step HB1.out hb3
  have eln : d.length + 32 = (d ++ List.replicate 32 0).length := by simp
  obtain ⟨g, cap, rfl, hgw, hbuf⟩ : ∃ g cap, v3 = .slice (some ⟨g, 0, none⟩) (d.length + 32) cap ∧ w1.heap.size ≤ g ∧ Buf w3 g cap (d ++ List.replicate 32 0) := by
    have h0 := hv.2
    rcases h0 with ⟨_, h0⟩ | ⟨g, cap, cur, rfl, hg, _⟩
    · omega
    · refine ⟨g, cap, rfl, hg, ?_⟩
      unfold Buf
      rw [← eln]
      exact World.ownsRow.mono hv (Nat.zero_le _)
  obtain ⟨og, cg, rfl, hG⟩ := HG1.out
  rw [genL_length]
  have hGl : (genL 32).length = 33 := genL_length 32
  have hGl2 : Hid ((genL 32).length = 33) := Lib.hid hGl
  obtain ⟨bg, fg, rfl, hbg, _⟩ := hG.cells (by simp [hGl])
  obtain ⟨bd, fd, rfl, hbd, _⟩ := HP.out.cells (by simp; omega)
  have HG3 := Lib.hid (hG.later hb3)
  have HP3 := Lib.hid (HP.out.later hw3)
  have HGN : Hid (bg ≠ g) := Lib.hid (by omega)
  have HDN : Hid (bd ≠ g) := Lib.hid (by have := HB1.out.size; omega)
  have HGE : Hid (w.heap.size ≤ g) := Lib.hid (Nat.le_trans HB1.out.size hgw)
  have HB3 := Lib.hid hw3
  have HBF := Lib.hid hbuf
  have hcap := hbuf.le
  rw [← eln] at hcap
  unfold maxLen at hcap
  clear hv hgr hb3 hw3 eln hgw hbuf hG hGl hbg hbd HB2 HV2 HG1
  go_wp2_with fail
  go_loopw [24] (fun iv wr => PoAt d g cap w3 iv wr) (fun iv _ => d.length - (intOf iv).toNat)
  case atStart => exact ⟨0, _, Nat.zero_le _, rfl, PR.start d, HBF.out, Only.refl _ _⟩
  case round =>
    rename World => W1
    obtain ⟨i, R, hi, rfl, hR, hbf, ho⟩ := hrel
    have hRl := hR.len
    by_cases hlt : i < d.length
    · have hc0 := hbf.cell i (by omega)
      have HR := Lib.hid hR
      have HRL := Lib.hid hRl
      have HBI := Lib.hid hbf
      have HO := Lib.hid ho
      clear hR hbf ho
      obtain ⟨y, hy⟩ : ∃ y, co R i = y := ⟨_, rfl⟩
      rw [hy] at hc0
      have HY := Lib.hid hy
      have hyl := UInt8.toNat_lt y
      clear hy
      have hi1 : (i : Int) < (d.length : Int) + 32 := by omega
      go_wp2_with fail
      go_loopw [8] (fun kv wr => PiAt R i y g cap W1 kv wr) (fun kv _ => 33 - (intOf kv).toNat)
      case atStart => exact ⟨0, by omega, rfl, by rw [mixr_zero]; exact HBI.out, Only.refl _ _⟩
      case round =>
        obtain ⟨k, hk, rfl, hbk, hok⟩ := hrel
        by_cases hkl : k ≤ 32
        · by_cases h0 : y = 0
          · subst h0
            have HBK := Lib.hid hbk
            have HOK := Lib.hid hok
            clear hbk hok
            have hd3 : decide ((k : Int) ≤ 32) = true := decide_eq_true (by omega)
            go_wp2_with fail
            go_roundw
            case rel => exact ⟨k + 1, by omega, by go_num, by rw [mixr_none]; exact HBK.out, HOK.out⟩
            case measure => simp [intOf]; omega
          · have h00 : ¬ y.toNat = 0 := fun e => h0 (Gf.u8_ext e)
            have hx1 : ((y.toNat : Int) == 0) = false := by simpa using h00
            have hx2 : ((y.toNat : Int) != 0) = true := by simp [bne, hx1]
            have hd3 : decide ((k : Int) ≤ 32) = true := decide_eq_true (by omega)
            have hgw : RowIs wr (some ⟨bg, fg, none⟩) (bytesV (genL 32)) cg := (HO.out.trans hok).row HG3.out (fun _ p e => by cases e; exact HGN.out)
            obtain ⟨bg', fg', e, _, hcell⟩ := hgw.cells (by simp [hGl2.out])
            cases e
            have hml : i + k < R.length := by omega
            have hc1 := hbk.cell (i + k) (by simpa using hml)
            have hf1 := hbk.frozen (i + k)
            have hcg : wr.cell? ⟨bg, fg + (32 - k), none⟩ = some (.int .u8 ((co (genL 32) (32 - k)).toNat : Int)) := hcell (32 - k) _ (bytesV_get (genL 32) (32 - k) (by have := hGl2.out; omega))
            have hst := ((hbk.later ((Below.refl wr.heap.size wr).drew)).store (i + k) (co (mixr R (genL 32) i y k) (i + k) ^^^ Gf.gm y (co (genL 32) (32 - k))))
            rw [mixr_step _ _ _ _ _ hml] at hst
            have hx := u8c (co (mixr R (genL 32) i y k) (i + k)) (Gf.gm y (co (genL 32) (32 - k)))
            have MC : Hid (∀ v : World, Calls Tryd.prog 42 #[.int .u8 (y.toNat : Int), .int .u8 ((co (genL 32) (32 - k)).toNat : Int)] v fun e w' => e = .returned (.int .u8 ((Gf.gm y (co (genL 32) (32 - k))).toNat : Int)) ∧ w' = v) := Lib.hid fun v => rmul_u8 _ _ v
            have HOK := Lib.hid hok
            clear hcell hok hgw hbk
            generalize Gf.gm y (co (genL 32) (32 - k)) = t at *
            generalize co (mixr R (genL 32) i y k) (i + k) = s at *
            generalize co (genL 32) (32 - k) = u at *
            generalize s ^^^ t = q at *
            have hsl := UInt8.toNat_lt s
            have hul := UInt8.toNat_lt u
            obtain ⟨m, hm⟩ : ∃ m, i + k = m := ⟨_, rfl⟩
            obtain ⟨r, hr⟩ : ∃ r, 32 - k = r := ⟨_, rfl⟩
            rw [hm] at hc1 hf1 hst hml
            rw [hr] at hcg
            have hw1 : IntKind.i64.wrap ((i : Int) + (k : Int)) = (m : Int) := by rw [IntKind.wrap_i64]; omega
            have hw2 : IntKind.i64.wrap (32 - (k : Int)) = (r : Int) := by rw [IntKind.wrap_i64]; omega
            have hm2 : (m : Int) < (d.length : Int) + 32 := by omega
            have hr2 : (r : Int) < 33 := by omega
            have hm0 : (0 : Int) ≤ (m : Int) := by omega
            have hr0 : (0 : Int) ≤ (r : Int) := by omega
            have HST := Lib.hid hst
            clear hst hm hr
            go_wp2_with fail
            go_region_with (go_at_call 42; refine (MC.out _).mono ?_; rintro e w' ⟨rfl, rfl⟩)
            all_goals
              rw [show (wr.setCell ⟨g, m, none⟩ (.int .u8 (q.toNat : Int))).drew = wr.drew.setCell ⟨g, m, none⟩ (.int .u8 (q.toNat : Int)) from rfl]
              go_wp2
              go_roundw
              case rel => exact ⟨k + 1, by omega, by go_num, HST.out.1, HOK.out.trans ((Only.of_below (Below.refl wr.heap.size wr).drew).trans HST.out.2)⟩
              case measure => simp [intOf]; omega
        · obtain rfl : k = 33 := by omega
          have HBK := Lib.hid hbk
          have HOK := Lib.hid hok
          clear hbk hok
          go_wp2_with fail
          go_roundw
          case rel => exact ⟨i + 1, mixr R (genL 32) i y 33, by omega, by go_num, by rw [← HY.out]; exact HR.out.step hlt, HBK.out, HO.out.trans HOK.out⟩
          case measure => simp [intOf]; omega
    · obtain rfl : i = d.length := by omega
      have hdn := hR.done
      have hdr := hbf.drop d.length (by omega)
      have hbw : Below w.heap.size w W1 := HB3.out.trans (ho.below HGE.out HB3.out.size)
      have HDN := Lib.hid hdn
      have HDR := Lib.hid hdr
      have HBW := Lib.hid hbw
      have hcn : ¬ cap = d.length := by omega
      have HCU := Lib.hid hbf.cells
      clear hdn hdr hbw hbf ho hR
      go_wp2_with fail
      refine bodyPost_ret (results_tmp2 rfl _ _ _) rfl ?_
      exact ⟨_, _, HDN.out.1, HDN.out.2, rfl, ⟨some ⟨g, d.length, none⟩, cap - d.length, by rw [HDN.out.1]; rfl, HDR.out⟩, HBW.out, g, d.length, cap - d.length, HCU.out.choose, by simp, HCU.out.choose_spec⟩
theorem rpar_any (d : List UInt8) (o : Option Addr) (c : Nat) (w : World) (hP : RowIs w o (bytesV d) c) (hl1 : 1 ≤ d.length) (hl2 : d.length ≤ 223) :
    Calls Tryd.prog 26 #[.slice o d.length c] w (ParTo d w) :=
  (rpar_kind d o c w hP hl1 hl2).mono fun e w' ⟨r, x, h1, h2, h3, h4, h5, _⟩ => ⟨r, x, h1, h2, h3, h4, h5⟩
end Go.Proofs.YtgifbpjmblemhaaDoor
namespace Go.Proofs.YtgifbpjmblemhaaDoor
open Go.RowKit
set_option linter.unusedVariables false
set_option linter.unusedSimpArgs false
/-- a word's syndromes -/
def synL (z : List UInt8) : List UInt8 := tab (fun j => Gf.hv (Gf.al j) z) 32
@[simp] theorem synL_length (z : List UInt8) : (synL z).length = 32 := by simp [synL]
def zsyn : List UInt8 := List.replicate 32 0
theorem zero_syn (w : World) : Sem.run Tryd.prog (zeroValue 109) w = .ok (.agg (bytesV zsyn).toArray) w := by kernel_rfl
def SoAt (z : List UInt8) (w : World) (g g0 : Nat) (x i : Value) (wr : World) : Prop :=
  ∃ k : Nat, k ≤ 32 ∧ i = .int .i64 k ∧ x = .int .u8 ((Gf.al k).toNat : Int) ∧ (∃ ys : List UInt8, ys.length = 32 ∧ (∀ j, j < k → co ys j = Gf.hv (Gf.al j) z) ∧ wr.heap[g]? = some (.cells (bytesV ys).toArray 109 (0, 0))) ∧
    wr.heap[g0]? = some (.cells (bytesV zsyn).toArray 109 (0, 0)) ∧ Below w.heap.size w wr
def SiAt (z : List UInt8) (x : UInt8) (w : World) (v i : Value) (wr : World) : Prop :=
  ∃ k : Nat, k ≤ z.length ∧ i = .int .i64 k ∧ v = .int .u8 ((Gf.hv x (z.take k)).toNat : Int) ∧ wr = w
theorem one_cell (ys : List UInt8) : (bytesV ys).toArray.all (·.oneCell') = true := by
  rw [Array.all_eq_true_iff_forall_mem]
  intro x hx
  simp only [bytesV, List.mem_toArray, List.mem_map] at hx
  obtain ⟨b, _, rfl⟩ := hx
  rfl
theorem syn_info : (Tryd.prog.info? 109).map (·.size) = some 32 := by kernel_rfl
theorem syn_under : Tryd.prog.underlying 109 = some (.array 32 5) := by kernel_rfl
theorem syn_size {ys : List UInt8} (h : ys.length = 32) : (Tryd.prog.info? 109).map (·.size) = some (bytesV ys).toArray.size := by
  rw [syn_info]; simp [h]
theorem take_step (z : List UInt8) (k : Nat) (h : k < z.length) : z.take (k + 1) = z.take k ++ [co z k] := by
  rw [List.take_add_one, List.getElem?_eq_getElem h]
  simp [co, h]
theorem below_setRow {n g : Nat} {w : World} {cs : Array Value} (h : n ≤ g) : Below n w (w.setRow g cs) :=
  ⟨rfl, rfl, rfl, by simp [World.setRow], fun k hk => setRow_other w g k cs (by omega)⟩
theorem cells_set (ys : List UInt8) (i : Nat) (b : UInt8) : (bytesV ys).toArray.setIfInBounds i (.int .u8 (b.toNat : Int)) = (bytesV (ys.set i b)).toArray := by
  rw [← bytesV_set]
  simp
theorem dn_block {a b : World} (h : Kit.Dn a b) (k : Nat) : b.heap[k]? = a.heap[k]? := by
  obtain ⟨n, rfl⟩ := h
  rfl
end Go.Proofs.YtgifbpjmblemhaaDoor
