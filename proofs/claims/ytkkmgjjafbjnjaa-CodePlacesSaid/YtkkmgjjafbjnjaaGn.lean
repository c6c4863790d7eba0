/- The document's generator. -/
import Derived.Test.YtkkmgjjafbjnjaaCw
import Derived.Test.YtkkmgjjafbjnjaaRm
import Derived.Test.YtkkmgjjafbjnjaaAs
import Derived.Test.YtkkmgjjafbjnjaaFu
namespace Go.Proofs.Ytkkmgjjafbjnjaa
open Go.RowKit
set_option linter.unusedVariables false
set_option linter.unusedSimpArgs false
/-- times (x + r) -/
def nx (G : List UInt8) (r : UInt8) : List UInt8 := tab (fun m => Gf.gm (co G m) r ^^^ (if m = 0 then 0 else co G (m - 1))) (G.length + 1)
def genL : Nat → List UInt8
  | 0 => [1]
  | k + 1 => nx (genL k) (Gf.al k)
theorem genL_length (k : Nat) : (genL k).length = k + 1 := by
  induction k with
  | zero => rfl
  | succ k ih => simp [genL, nx, ih]
theorem co_nx (G : List UInt8) (r : UInt8) (m : Nat) : co (nx G r) m = Gf.gm (co G m) r ^^^ (if m = 0 then 0 else co G (m - 1)) :=
  co_tab' _ _ _ fun j hj => by
    rw [co_ge (by omega), Gf.zero_gm, if_neg (by omega), co_ge (by omega)]; rfl
theorem ev_nx (G : List UInt8) (r x : UInt8) : evL (nx G r) x = Gf.gm (evL G x) (r ^^^ x) := by
  have h : ∀ m, co (nx G r) m = Gf.gm (co G m) r ^^^ Gf.ps 1 (co G) m := fun m => by
    rw [co_nx]
    unfold Gf.ps
    congr 1
    by_cases e : m = 0
    · rw [if_pos e, if_neg (by omega)]
    · rw [if_neg e, if_pos (by omega)]
  have hl : (nx G r).length = G.length + 1 := by simp [nx]
  unfold evL
  rw [hl, Gf.ev_congr (fun i _ => h i), Gf.ev_xor]
  rw [Nat.add_comm G.length 1, Gf.ev_ps, Gf.gm_xor, Gf.ev_congr (g := fun i => Gf.gm r (co G i)) (fun i _ => Gf.gm_comm _ _), Gf.ev_gm]
  rw [Gf.ev_more (n := G.length) (m := 1 + G.length) (by omega) (fun i hi => co_ge hi), Gf.gm_comm r, show Gf.px x 1 = x by show Gf.gm 1 x = x; exact Gf.one_gm x, Gf.gm_comm x]
theorem gen_root (k j : Nat) (h : j < k) : evL (genL k) (Gf.al j) = 0 := by
  induction k with
  | zero => omega
  | succ k ih =>
    rw [genL, ev_nx]
    by_cases e : j = k
    · rw [e, UInt8.xor_self, Gf.gm_zero]
    · rw [ih (by omega), Gf.zero_gm]
theorem gen_top (k : Nat) : co (genL k) k = 1 := by
  induction k with
  | zero => rfl
  | succ k ih => rw [genL, co_nx, co_ge (by rw [genL_length]; omega), Gf.zero_gm, if_neg (by omega), Nat.add_sub_cancel, ih]; rfl
/-- the next one, when i coefficients have been added -/
def nxAt (G : List UInt8) (r : UInt8) (i : Nat) : List UInt8 := tab (fun m => (if m < i then Gf.gm (co G m) r else 0) ^^^ (if 1 ≤ m ∧ m ≤ i then co G (m - 1) else 0)) (G.length + 1)
@[simp] theorem nxAt_length (G : List UInt8) (r : UInt8) (i : Nat) : (nxAt G r i).length = G.length + 1 := by simp [nxAt]
theorem co_nxAt (G : List UInt8) (r : UInt8) (i m : Nat) (h : m < G.length + 1) : co (nxAt G r i) m = (if m < i then Gf.gm (co G m) r else 0) ^^^ (if 1 ≤ m ∧ m ≤ i then co G (m - 1) else 0) := co_tab _ _ _ h
theorem nxAt_zero (G : List UInt8) (r : UInt8) : nxAt G r 0 = List.replicate (G.length + 1) 0 := by
  refine list_ext (by simp) fun i hi => ?_
  simp at hi
  rw [co_nxAt _ _ _ _ hi, if_neg (by omega), if_neg (by omega)]
  simp [co, List.getD_eq_getElem?_getD, List.getElem?_replicate, hi]
theorem nxAt_full (G : List UInt8) (r : UInt8) : nxAt G r G.length = nx G r := by
  refine list_ext (by simp [nx]) fun i hi => ?_
  simp at hi
  rw [co_nxAt _ _ _ _ hi, co_nx]
  congr 1
  · by_cases e : i < G.length
    · rw [if_pos e]
    · rw [if_neg e, co_ge (by omega), Gf.zero_gm]
  · by_cases e : i = 0
    · rw [if_pos e, if_neg (by omega)]
    · rw [if_neg e, if_pos (by omega)]
theorem nxAt_one (G : List UInt8) (r : UInt8) (i : Nat) (h : i < G.length) : co (nxAt G r i) i = (if i = 0 then 0 else co G (i - 1)) := by
  rw [co_nxAt _ _ _ _ (by omega), if_neg (by omega), UInt8.zero_xor]
  by_cases e : i = 0
  · rw [if_pos e, if_neg (by omega)]
  · rw [if_neg e, if_pos (by omega)]
theorem nxAt_two (G : List UInt8) (r : UInt8) (i : Nat) (h : i < G.length) : co (nxAt G r i) (i + 1) = 0 := by
  rw [co_nxAt _ _ _ _ (by omega), if_neg (by omega), if_neg (by omega)]; rfl
theorem nxAt_step (G : List UInt8) (r : UInt8) (i : Nat) (h : i < G.length) (s : UInt8) (hs : s = co (nxAt G r i) i ^^^ Gf.gm (co G i) r) : ((nxAt G r i).set i s).set (i + 1) (co G i) = nxAt G r (i + 1) := by
  refine list_ext (by simp) fun m hm => ?_
  simp at hm
  rw [co_nxAt _ _ _ _ hm, co_set, co_set]
  by_cases e1 : i + 1 = m
  · subst e1
    rw [if_pos ⟨rfl, by simp; omega⟩, if_neg (by omega), if_pos (by omega), UInt8.zero_xor, Nat.add_sub_cancel]
  · rw [if_neg (fun h => e1 h.1)]
    by_cases e2 : i = m
    · subst e2
      have e3 : (if i < i + 1 then Gf.gm (co G i) r else 0) = Gf.gm (co G i) r := if_pos (by omega)
      have e4 : (if 1 ≤ i ∧ i ≤ i + 1 then co G (i - 1) else 0) = (if i = 0 then 0 else co G (i - 1)) := by
        by_cases e : i = 0
        · rw [if_pos e, if_neg (by omega)]
        · rw [if_neg e, if_pos (by omega)]
      rw [if_pos ⟨rfl, by simp; omega⟩, hs, nxAt_one _ _ _ h, e3, e4, UInt8.xor_comm]
    · rw [if_neg (fun h => e2 h.1), co_nxAt _ _ _ _ hm]
      congr 1
      · by_cases e : m < i
        · rw [if_pos e, if_pos (by omega)]
        · rw [if_neg e, if_neg (by omega)]
      · by_cases e : 1 ≤ m ∧ m ≤ i
        · rw [if_pos e, if_pos (by omega)]
        · rw [if_neg e, if_neg (by omega)]
def GnAt (w : World) (v r i : Value) (wr : World) : Prop :=
  ∃ k : Nat, k ≤ 32 ∧ i = .int .i64 k ∧ r = .int .u8 ((Gf.al k).toNat : Int) ∧ RowV (genL k) v wr ∧ Below w.heap.size w wr
def GiAt (G : List UInt8) (r : UInt8) (w : World) (g : Nat) (i : Value) (wr : World) : Prop :=
  ∃ k : Nat, k ≤ G.length ∧ i = .int .i64 k ∧ Buf wr g (G.length + 1) (nxAt G r k) ∧ Only g w wr
set_option maxRecDepth 100000 in
set_option maxHeartbeats 2000000 in
theorem rgen_any (w : World) : Calls Try.prog 9 #[] w (Rows (genL 32) w) := by
  have hb0 : Below w.heap.size w (w.alloc (.cells (bytesV [1]).toArray 5)) := (Below.refl _ _).alloc (Nat.le_refl _) _
  have hr0 : RowV (genL 0) (.slice (some ⟨w.heap.size, 0, none⟩) 1 1) (w.alloc (.cells (bytesV [1]).toArray 5)) := ⟨_, _, rfl, row_cells (World.alloc_heap_new _ _) (by unfold maxLen; simp [genL])⟩
  have HB0 := Lib.hid hb0
  have HR0 := Lib.hid hr0
  obtain ⟨i0, hi, hz0, hz1, hz2⟩ := info_parts info_u8
  clear hb0 hr0
  go_enter Try.func9, Try.ntmps9
  go_wp2_with fail
  go_loopw [1, 2, 3] (fun v r i wr => GnAt w v r i wr) (fun _ _ i _ => 32 - (intOf i).toNat)
  case atStart => exact ⟨0, Nat.zero_le _, rfl, rfl, HR0.out, HB0.out⟩
  case round =>
    rename World => W1
    obtain ⟨k, hk, rfl, rfl, hr, hb⟩ := hrel
    by_cases hlt : k < 32
    · have hd1 : decide ((k : Int) < 32) = true := by simpa using (by omega : (k : Int) < 32)
      have hgl := genL_length k
      have HG : Hid (genL (k + 1) = nx (genL k) (Gf.al k)) := Lib.hid rfl
      have HA : Hid (∀ v : World, Calls Try.prog 14 #[.int .u8 ((Gf.al k).toNat : Int), .int .u8 2] v fun e w' => e = .returned (.int .u8 ((Gf.al (k + 1)).toNat : Int)) ∧ w' = v) := Lib.hid fun v => by
        have := rmul_u8 (Gf.al k) (Gf.al 1) v
        rw [Gf.gm_al] at this
        exact this
      obtain ⟨o, c, rfl, hr⟩ := hr
      have h3 := hr.le
      have h4 := hr.cap
      simp only [bytesV_length] at h3
      unfold maxLen at h4
      have HR := Lib.hid hr
      have HB := Lib.hid hb
      clear hr hb
      have hrl := UInt8.toNat_lt (Gf.al k)
      generalize Gf.al k = r at *
      have HGL := Lib.hid hgl
      have hn : (genL k).length ≤ 33 := by omega
      clear hgl
      generalize genL k = G at *
      go_wp2_with (at_make; refine wpList_make_full _ rfl _ _ 25 rfl 0 5 i0 (.int .u8 0) 1 Try.underlying25 hi hz0 hz1 _ _ _ _ (G.length + 1) rfl rfl (by omega) (by omega) (by rw [hz2]; omega) (by unfold maxLen; omega) (Nat.zero_le _) ?_)
      intro w2 hown hgrow
      have hb2 : Below W1.heap.size W1 w2 := (Below.refl _ _).grown hgrow (Nat.le_refl _) (fun k h => by cases h)
      have hbuf : Buf w2 W1.heap.size (G.length + 1) (nxAt G r 0) := by rw [nxAt_zero]; exact buf_made hown
      have HB2 := Lib.hid hb2
      have HBF := Lib.hid hbuf
      have HR2 := Lib.hid (HR.out.later hb2)
      have HAP := Lib.hid (HR.out.apart (Nat.le_refl W1.heap.size))
      clear hown hgrow hb2 hbuf
      obtain ⟨g, hg⟩ : ∃ g, W1.heap.size = g := ⟨_, rfl⟩
      rw [hg] at HBF HAP ⊢
      have HGE := Lib.hid hg
      clear hg
      go_wp2_with fail
      go_loopw [18] (fun i wr => GiAt G r w2 g i wr) (fun i _ => G.length - (intOf i).toNat)
      case atStart => exact ⟨0, Nat.zero_le _, rfl, HBF.out, Only.refl _ _⟩
      case round =>
        rename World => W3
        obtain ⟨j, hj, rfl, hbf, ho⟩ := hrel
        have HR3 := Lib.hid (ho.row HR2.out HAP.out)
        have HO := Lib.hid ho
        have HBJ := Lib.hid hbf
        by_cases hjl : j < G.length
        · obtain ⟨b1, off1, rfl, hb1, hcell⟩ := HR3.out.cells (by simp; omega)
          have hc1 : W3.cell? ⟨b1, off1 + j, none⟩ = some (.int .u8 ((co G j).toNat : Int)) := hcell j _ (bytesV_get G j hjl)
          have hc2 := hbf.cell j (by simp; omega)
          have hf2 := hbf.frozen j
          have hdr := hbf.later ((Below.refl W3.heap.size W3).drew)
          have hst := hdr.store j (co (nxAt G r j) j ^^^ Gf.gm (co G j) r)
          have hce := hst.1.cell (j + 1) (by simp; omega)
          rw [co_set, if_neg (by omega), nxAt_two _ _ _ hjl] at hce
          have hfe := hst.1.frozen (j + 1)
          have hst2 := hst.1.store (j + 1) (co G j)
          have hc3 := (Only.row hst.2 (HR3.out.later ((Below.refl W3.heap.size W3).drew)) HAP.out).cells
          rw [nxAt_step _ _ _ hjl _ rfl] at hst2
          have HS2 := Lib.hid hst2
          have HS1 := Lib.hid hst.2
          have hx := u8c (co (nxAt G r j) j) (Gf.gm (co G j) r)
          have MC : Hid (∀ v : World, Calls Try.prog 14 #[.int .u8 ((co G j).toNat : Int), .int .u8 (r.toNat : Int)] v fun e w' => e = .returned (.int .u8 ((Gf.gm (co G j) r).toNat : Int)) ∧ w' = v) := Lib.hid fun v => rmul_u8 _ _ v
          clear hcell hbf ho hst hst2 hdr hc3
          generalize Gf.gm (co G j) r = t at *
          generalize co (nxAt G r j) j = s at *
          generalize s ^^^ t = q at *
          generalize hy : co G j = y at *
          have hyl := UInt8.toNat_lt y
          have hsl := UInt8.toNat_lt s
          have htl := UInt8.toNat_lt t
          have HY := Lib.hid hy
          have hx2 : bits .xor .u8 0 (y.toNat : Int) = (y.toNat : Int) := by
            have := u8c 0 y
            rw [UInt8.zero_xor] at this
            exact this
          clear hy
          obtain ⟨w5, hw5⟩ : ∃ w5, W3.drew.setCell ⟨g, j, none⟩ (.int .u8 (q.toNat : Int)) = w5 := ⟨_, rfl⟩
          rw [hw5] at hce hfe HS2 HS1
          have HW5 := Lib.hid hw5
          clear hw5
          go_wp2_with fail
          go_region_with (go_at_call 14; refine (MC.out _).mono ?_; rintro e w' ⟨rfl, rfl⟩)
          all_goals
            rw [show (W3.setCell ⟨g, j, none⟩ (.int .u8 (q.toNat : Int))).drew = w5 from HW5.out]
            go_wp2
            go_roundw
            case rel => exact ⟨j + 1, by omega, by go_num, HS2.out.1, HO.out.trans ((Only.of_below (Below.refl W3.heap.size W3).drew).trans (HS1.out.trans HS2.out.2))⟩
            case measure => simp [intOf]; omega
        · obtain rfl : j = G.length := by omega
          rw [nxAt_full] at hbf
          have hrow := hbf.row
          have hbw : Below w.heap.size w W3 := Kit.step HB.out ((HB2.out).trans (ho.below (by rw [HGE.out]; exact Nat.le_refl _) HB2.out.size))
          have HROW := Lib.hid hrow
          have HBW := Lib.hid hbw
          clear HBJ hbf ho hrow hbw
          go_wp2_with fail
          refine (HA.out _).mono ?_; rintro e w' ⟨rfl, rfl⟩
          go_wp2_with fail
          go_roundw
          case rel => exact ⟨k + 1, by omega, by go_num, rfl, ⟨some ⟨g, 0, none⟩, G.length + 1, by rw [HG.out]; simp [nx], by rw [HG.out]; exact HROW.out⟩, HBW.out⟩
          case measure => simp [intOf]; omega
    · obtain rfl : k = 32 := by omega
      have HR := Lib.hid hr
      have HB := Lib.hid hb
      clear hr hb
      go_wp2_with fail
      go_ret
      exact ⟨_, rfl, HR.out, HB.out⟩
end Go.Proofs.Ytkkmgjjafbjnjaa
