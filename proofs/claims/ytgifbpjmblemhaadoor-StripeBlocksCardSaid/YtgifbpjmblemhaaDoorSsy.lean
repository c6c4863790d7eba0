/- The walk of StripeSystematic. -/
import Derived.Test.YtgifbpjmblemhaaDoorBc
import Derived.Test.YtgifbpjmblemhaaDoorSsh
namespace Go.Proofs.YtgifbpjmblemhaaDoor
open Go.RowKit
set_option linter.unusedVariables false
set_option linter.unusedSimpArgs false
/-- what each operation of the region has as its result -/
def SsyG (f p : List UInt8) (o5 : Option Addr) (c5 : Nat) (i : Nat) (x : Value) (v : World) : Prop :=
  match i with
  | 0 => (x) = .slice o5 0 c5
  | 1 | 6 => (x) = .int .i64 0
  | 4 | 10 | 17 | 27 | 30 => RowV (p) (x) v
  | 5 | 11 => (x) = .int .i64 ((p).length : Int)
  | 12 | 18 | 20 | 22 | 29 => RowV (f) (x) v
  | 13 | 19 => (x) = .int .i64 ((f).length : Int)
  | 21 | 23 => (x) = .string ⟨(f).toArray⟩
  | 28 | 31 => (x) = .string ⟨(p).toArray⟩
  | _ => (x) = .bool true
theorem SsyG.later {f p : List UInt8} {o5 : Option Addr} {c5 : Nat} (i : Nat) (x : Value) (v v' : World) (h : SsyG f p o5 c5 i x v) (hb : Below v.heap.size v v') : SsyG f p o5 c5 i x v' := by
  unfold SsyG at *
  split at h <;> first | exact h | exact h.later hb
theorem pad_rv {f p : List UInt8} {x : Value} {v : World} (hpf : padL f = p) (hf : RowV f x v) (hl : f.length ≤ 100000) : Calls Tryd.prog 14 #[x] v (Rows p v) := by
  obtain ⟨o, c, rfl, hr⟩ := hf
  subst hpf
  exact (pad_own f o c v hr hl).mono fun e v' h => h.rows
theorem co_takeB (p : List UInt8) (n i : Nat) (h : i < n) : co (p.take n) i = co p i := by
  unfold co
  rw [List.getD_eq_getElem?_getD, List.getD_eq_getElem?_getD, List.getElem?_take_of_lt h]
theorem take_blk (p : List UInt8) (A : Nat) (h : 8 * A + 8 ≤ p.length) : p.take (8 * A) ++ blk p A = p.take (8 * (A + 1)) := by
  have hl : (p.take (8 * A)).length = 8 * A := by rw [List.length_take]; omega
  refine list_ext (by rw [List.length_append, hl, List.length_take, blk_length]; omega) fun i hi => ?_
  rw [List.length_append, hl, blk_length] at hi
  rw [co_app, co_takeB p (8 * (A + 1)) i (by omega), hl]
  split
  · rename_i h1
    rw [co_takeB p _ i h1]
  · rename_i h1
    rw [co_blk _ _ _ (by omega)]
    congr 1; omega
theorem drop_szG (l : List Nat) (k : Nat) (h : k < l.length) : l.drop k = szG l k :: l.drop (k + 1) := by
  rw [List.drop_eq_getElem_cons h]
  simp [szG, List.getD_eq_getElem?_getD, List.getElem?_eq_getElem h]
def SyAt (p : List UInt8) (l : List Nat) (w : World) (v5 v7 iv : Value) (wr : World) : Prop :=
  ∃ (k A : Nat), k ≤ l.length ∧ A = sumN (l.take k) ∧ iv = .int .i64 k ∧ RbV (grps p A (l.drop k)) v5 w ∧ wr.ownsRow w.heap.size 5 1 v7 (8 * A) (bytesV (p.take (8 * A))) ∧ Below w.heap.size w wr
def SyIn (p : List UInt8) (A s : Nat) (w : World) (v7 iv : Value) (wr : World) : Prop :=
  ∃ (j B : Nat), j ≤ s ∧ B = A + j ∧ iv = .int .i64 j ∧ wr.ownsRow w.heap.size 5 1 v7 (8 * B) (bytesV (p.take (8 * B))) ∧ Below w.heap.size w wr
set_option maxRecDepth 100000 in
set_option maxHeartbeats 4000000 in
theorem ssy_long (m c : Nat) (o : Option Addr) (w : World) (h : 2000 < m) (hm : m ≤ 9223372036854775807) :
    Calls Tryd.prog 6 #[.slice o m c] w fun e w' => e = .returned (.bool true) ∧ Below w.heap.size w w' := by
  have hd1 : decide ((2000 : Int) < (m : Int)) = true := decide_eq_true (by omega)
  clear h
  go_enter Tryd.func6, Tryd.ntmps6
  go_wp2_with fail
  refine (alive6_any _).mono ?_; rintro e w1 ⟨rfl, hb⟩
  have HB := Lib.hid hb
  clear hb
  go_wp2_with fail
  go_ret
  exact ⟨rfl, HB.out⟩
set_option maxRecDepth 100000 in
set_option maxHeartbeats 4000000 in
theorem ssy_walk (f : List UInt8) (o : Option Addr) (c : Nat) (w : World) (hR : RowIs w o (bytesV f) c) (hl : f.length ≤ 2000) :
    Calls Tryd.prog 6 #[.slice o f.length c] w fun e w' => e = .returned (.bool true) ∧ Below w.heap.size w w' := by
  have hd1 : decide ((2000 : Int) < (f.length : Int)) = false := decide_eq_false (by omega)
  have h1 := hR.le
  have h2 := hR.cap
  simp only [bytesV_length] at h1
  unfold maxLen at h2
  have HR := Lib.hid hR
  have hs := fun v => shape_any f.length v hl
  have hbk : ∀ v, Below w.heap.size w v → Calls Tryd.prog 9 #[.slice o f.length c] v fun e w' => ∃ x, e = .returned (.tuple #[x, .nilIface]) ∧ RbV (allB f) x w' ∧ Below v.heap.size v w' := fun v hb => cblocks_any f o c v (hR.later hb) hl
  have hnb := nbk_bd f.length hl
  have hnp := nbk_pos f.length
  have hll := shp_len f.length
  have hss := shp_sum f.length
  have hmem : ∀ k ∈ shp f.length, 1 ≤ k ∧ k ≤ 223 := shpN_mem (nbk f.length) hnp hnb
  have hpl := padL_length f
  have hfpl := nbk_le f.length
  have hall : allB f = grps (padL f) 0 (shp f.length) := rfl
  have htk : (padL f).take f.length = f := by unfold padL; rw [List.take_left' rfl]
  obtain ⟨l, hlq⟩ : ∃ l, shp f.length = l := ⟨_, rfl⟩
  obtain ⟨m, hmq⟩ : ∃ m, nbk f.length = m := ⟨_, rfl⟩
  obtain ⟨p, hpq⟩ : ∃ p, padL f = p := ⟨_, rfl⟩
  rw [hlq] at hs hll hss hmem hall
  rw [hmq] at hnb hnp hss hpl hfpl
  rw [hpq] at hpl hall htk
  rw [hall] at hbk
  have HS := Lib.hid hs
  have HBK := Lib.hid hbk
  have HSS := Lib.hid hss
  have HMM := Lib.hid hmem
  have HPL := Lib.hid hpl
  have HPF := Lib.hid hpq
  have HTK := Lib.hid htk
  have HFP : Hid (f.length ≤ p.length) := Lib.hid (by omega)
  have HFL : Hid (f.length ≤ 2000) := Lib.hid hl
  have HP8 : Hid (Int.tmod (p.length : Int) 8 = 0 ∧ (p.length : Int) % 8 = 0) := Lib.hid (by
    rw [Int.tmod_eq_emod_of_nonneg (by omega)]
    omega)
  clear hR hs hbk hss hmem hpl hall htk hfpl hlq hmq hpq
  go_enter Tryd.func6, Tryd.ntmps6
  go_wp2_with fail
  refine (alive6_any _).mono ?_; rintro e w1 ⟨rfl, hb⟩
  have HB1 := Lib.hid hb
  clear hb
  go_wp2_with fail
  refine (HS.out _).mono ?_; rintro e w2 ⟨x, rfl, ⟨o1, c1, rfl, hr⟩, hb⟩
  have hc1 := hr.cap
  have hle1 := hr.le
  simp at hle1
  unfold maxLen at hc1
  have HB2 := Lib.hid (Kit.step HB1.out hb)
  have HR2 := Lib.hid hr
  rw [natI_length]
  clear hb hr HS
  go_wp2_with fail
  refine (HBK.out _ HB2.out).mono ?_; rintro e w3 ⟨x5, rfl, hx5, hb⟩
  have HB3 := Lib.hid (Kit.step HB2.out hb)
  have HR3 := Lib.hid (HR2.out.later hb)
  have HX5 := Lib.hid hx5
  obtain ⟨w4, hw4⟩ : ∃ w4, w3.alloc (.cells #[] 5) = w4 := ⟨_, rfl⟩
  have hb4 : Below w3.heap.size w3 w4 := by rw [← hw4]; exact below_new _ _
  have HO4 : Hid (w4.ownsRow w3.heap.size 5 1 (.slice (some ⟨w3.heap.size, 0, none⟩) 0 0) 0 (bytesV [])) := Lib.hid (by rw [← hw4]; exact World.ownsRow_lit w3 #[] 0 (Nat.le_refl _) (Nat.zero_le _) rfl)
  have HB4 := Lib.hid (Kit.step HB3.out hb4)
  have HB34 := Lib.hid hb4
  have HW4 := Lib.hid hw4
  clear hb hx5 hw4 hb4 HBK HR2
  go_wp2_with (rw [HW4.out])
  go_loopw [5, 7, 9, 11, 37] (fun v5 v7 _ _ iv wr => SyAt p l w3 v5 v7 iv wr) (fun _ _ _ _ iv _ => l.length - (intOf iv).toNat)
  case atStart => exact ⟨0, 0, Nat.zero_le _, rfl, rfl, HX5.out, HO4.out, HB34.out⟩
  case round =>
    obtain ⟨k, A, hk, hA, rfl, ⟨o5, c5, rfl, hv5⟩, hv7, hbw⟩ := hrel
    have HBW := Lib.hid hbw
    have HV5 := Lib.hid hv5
    have HV7 := Lib.hid hv7
    have HAA := Lib.hid hA
    have hlen5 := grps_length p (l.drop k) A
    rw [hlen5]
    have h5le := hv5.le
    rw [hlen5] at h5le
    have h51 := h5le.1
    have h52 := h5le.2
    unfold maxLen at h52
    obtain ⟨n5, hn5⟩ : ∃ n5, sumN (l.drop k) + 32 * (l.drop k).length = n5 := ⟨_, rfl⟩
    rw [hn5] at h51 ⊢
    by_cases hlt : k < l.length
    · obtain ⟨b1, off1, rfl, _, hcl⟩ := natI_cell (HR3.out.later hbw) k hlt
      change wr.cell? _ = some (.int .i64 ((szG l k : Nat) : Int)) at hcl
      have hst := sumN_take_succ l k hlt
      change _ = _ + szG l k at hst
      have hsl := sumN_take_le l (k + 1)
      rw [HSS.out] at hsl
      have hmk := HMM.out _ (szG_mem l k hlt)
      have hdr := drop_szG l k hlt
      have hn6 : n5 = szG l k + 32 + (sumN (l.drop (k + 1)) + 32 * (l.drop (k + 1)).length) := by
        rw [← hn5, hdr]; simp; omega
      have hg6 : grps p A (l.drop k) = dat p A (szG l k) ++ (parB (dat p A (szG l k)) ++ grps p (A + szG l k) (l.drop (k + 1))) := by
        rw [hdr]; simp [grps, grpB, List.append_assoc]
      obtain ⟨s, hs⟩ : ∃ s, szG l k = s := ⟨_, rfl⟩
      obtain ⟨Rs, hRs⟩ : ∃ Rs, grps p (A + s) (l.drop (k + 1)) = Rs := ⟨_, rfl⟩
      rw [← hA] at hst
      rw [hs] at hcl hst hmk hn6 hg6
      rw [hRs] at hg6
      have hs1 := hmk.1
      have hs2 := hmk.2
      have hk0 : (0 : Int) ≤ (k : Int) := by omega
      have hk1 : (k : Int) < (l.length : Int) := by omega
      have hsn : s + 32 ≤ n5 := by omega
      have hAs : A + s ≤ m := by omega
      have hd2 : decide ((s : Int) < 1) = false := decide_eq_false (by omega)
      have hd3 : decide ((223 : Int) < (s : Int)) = false := decide_eq_false (by omega)
      have hd4 : decide ((n5 : Int) < (s : Int) + 32) = false := decide_eq_false (by omega)
      have hsc : (s : Int) ≤ (c5 : Int) := by omega
      have hsc2 : (s : Int) + 32 ≤ (c5 : Int) := by omega
      have hsn2 : (s : Int) + 32 ≤ (n5 : Int) := by omega
      obtain ⟨b5, off5, p5, q5, rfl, _⟩ := hv5.cell 0 (by rw [hlen5, hn5]; omega)
      have hrl : Rs.length + (s + 32) = n5 := by
        have := congrArg List.length hg6
        simp at this
        omega
      have hdd := hv5.drop (s + 32) (by rw [hlen5, hn5]; exact hsn)
      have e5 : (grps p A (l.drop k)).drop (s + 32) = Rs := by
        rw [hg6, ← List.append_assoc, List.drop_left' (by simp)]
      rw [e5] at hdd
      have HDD := Lib.hid hdd
      have HRL := Lib.hid hrl
      have HRS := Lib.hid hRs
      have HST := Lib.hid hst
      have HEL : Hid (∀ j, j < s → ∃ pp q, b5 < w3.heap.size ∧ w3.cell? ⟨b5, off5 + j, none⟩ = some (.slice pp 8 q) ∧ RowIs w3 pp (bytesV (blk p (A + j))) q) := Lib.hid fun j hj => by
        obtain ⟨b, off, pp, q, e, hlt, h1, h2⟩ := hv5.cell j (by rw [hlen5, hn5]; omega)
        cases e
        have hb : bi (grps p A (l.drop k)) j = blk p (A + j) := by
          rw [hg6, bi_app, dat_length, if_pos hj, bi_dat _ _ _ _ hj]
        rw [hb] at h1 h2
        rw [blk_length] at h1
        exact ⟨pp, q, hlt, h1, h2⟩
      have hA8 : Hid (8 * (A + s) ≤ p.length) := Lib.hid (by rw [HPL.out]; omega)
      clear hbw hv5 hv7 hst hsl hmk hdr hn6 hg6 hs hRs hdd e5 h5le hlen5 hn5 hA hrl HV5
      go_wp2_with fail
      go_loopw [7, 11, 58] (fun v7 _ iv wr2 => SyIn p A s w3 v7 iv wr2) (fun _ _ iv _ => s - (intOf iv).toNat)
      case atStart => exact ⟨0, A, Nat.zero_le _, rfl, rfl, HV7.out, HBW.out⟩
      case round =>
        rename World => W2
        obtain ⟨j, B, hj, hB, rfl, hv, hb⟩ := hrel
        have HV := Lib.hid hv
        have HB := Lib.hid hb
        have HBE := Lib.hid hB
        by_cases hjl : j < s
        · obtain ⟨pp, q, hblt, hc0, hr0⟩ := HEL.out j hjl
          have hc : W2.cell? ⟨b5, off5 + j, none⟩ = _ := (hb.cell (p := ⟨b5, off5 + j, none⟩) hblt).trans hc0
          have HRW := Lib.hid (hr0.later hb)
          have hj0 : (0 : Int) ≤ (j : Int) := by omega
          have hj1 : (j : Int) < (s : Int) := by omega
          have HTB := Lib.hid (take_blk p B (by have := hA8.out; omega))
          have hB250 : B ≤ 500 := by omega
          rw [← hB] at HRW
          clear hc0 hr0 hv hb hB hblt
          go_wp2_with (at_builtin; refine append_row rfl (.tmp 62) (.tmp 63) rfl w3.heap.size _ (8 * B) (p.take (8 * B)) rfl HV.out pp 8 q (blk p B) rfl (by rw [blk_length]) HRW.out (by omega) HB.out.size ?_)
          intro v' w5 hv hg
          have HV5 : Hid (w5.ownsRow w3.heap.size 5 1 v' (8 * (B + 1)) (bytesV (p.take (8 * (B + 1))))) := Lib.hid (by rw [← HTB.out]; exact hv)
          have HB5 := Lib.hid (own_below (n := 0) HB.out HV.out hg)
          clear hv hg
          go_wp2_with fail
          go_roundw
          case rel => exact ⟨j + 1, B + 1, by omega, by have := HBE.out; omega, by go_num, HV5.out, HB5.out⟩
          case measure => simp [intOf]; omega
        · obtain rfl : j = s := by omega
          obtain rfl : B = A + j := hB
          clear hv hb
          by_cases hcs : c5 = j + 32
          · have hcs2 : (c5 : Int) = (j : Int) + 32 := by omega
            have hnn : n5 = j + 32 := by omega
            have HR0 : Hid (Rs = []) := Lib.hid (List.eq_nil_of_length_eq_zero (by have := HRL.out; omega))
            subst hnn
            subst hcs
            clear hcs2
            go_wp2_with fail
            go_roundw
            case rel => exact ⟨k + 1, A + j, by omega, HST.out.symm, by go_num, by rw [HRS.out, HR0.out]; exact ⟨_, _, by rw [Nat.sub_self]; rfl, RbIs.empty _ (j + 32 - (j + 32)) (by omega) (fun e => by cases e)⟩, HV.out, HB.out⟩
            case measure => simp [intOf]; omega
          · have hrl : Rs.length = n5 - (j + 32) := by have := HRL.out; omega
            have HRL2 := Lib.hid hrl
            clear hrl
            go_wp2_with fail
            go_roundw
            case rel => exact ⟨k + 1, A + j, by omega, HST.out.symm, by go_num, by rw [HRS.out]; exact ⟨_, _, by rw [HRL2.out], HDD.out⟩, HV.out, HB.out⟩
            case measure => simp [intOf]; omega
    · obtain rfl : k = l.length := by omega
      have hn0 : n5 = 0 := by rw [← hn5, List.drop_length]; rfl
      have hAm : A = m := by rw [hA, List.take_length, HSS.out]
      have hp8 : p.take (8 * A) = p := by rw [hAm, ← HPL.out, List.take_length]
      subst hn0
      have hp : RowV p u7 wr := by
        have := owns_rv hv7 (by rw [hp8, hAm, HPL.out])
        rwa [hp8] at this
      have hf : RowV f (.slice o f.length c) wr := ⟨_, _, rfl, HR.out.later (HB3.out.trans (hbw.mono HB3.out.size))⟩
      have HBE := Lib.hid (HB3.out.trans (hbw.mono HB3.out.size))
      clear hlen5 h5le hv5 hv7 hbw hA hAm hp8 hn5 HV5 HV7 HBW HAA
      go_wp2_with fail
      refine Rg.region_grow (by kernel_rfl) (SsyG f p o5 c5) (by kernel_rfl) SsyG.later ?gd ?step ?fin
      case gd =>
        intro i op k t ho hg x v hG
        have hi := (Array.getElem?_eq_some_iff.1 ho).1
        match i, hi with
        | 0, _ =>
          obtain rfl := Option.some.inj ho
          cases hg
        | 1, _ =>
          obtain rfl := Option.some.inj ho
          cases hg
        | 2, _ =>
          obtain rfl := Option.some.inj ho
          cases hg
        | 3, _ =>
          obtain rfl := Option.some.inj ho
          cases hg
        | 4, _ =>
          obtain rfl := Option.some.inj ho
          obtain ⟨rfl, rfl⟩ : 3 = k ∧ true = t := by simpa using hg
          exact hG
        | 5, _ =>
          obtain rfl := Option.some.inj ho
          obtain ⟨rfl, rfl⟩ : 3 = k ∧ true = t := by simpa using hg
          exact hG
        | 6, _ =>
          obtain rfl := Option.some.inj ho
          obtain ⟨rfl, rfl⟩ : 3 = k ∧ true = t := by simpa using hg
          exact hG
        | 7, _ =>
          obtain rfl := Option.some.inj ho
          obtain ⟨rfl, rfl⟩ : 3 = k ∧ true = t := by simpa using hg
          exact hG
        | 8, _ =>
          obtain rfl := Option.some.inj ho
          cases hg
        | 9, _ =>
          obtain rfl := Option.some.inj ho
          cases hg
        | 10, _ =>
          obtain rfl := Option.some.inj ho
          obtain ⟨rfl, rfl⟩ : 9 = k ∧ true = t := by simpa using hg
          exact hG
        | 11, _ =>
          obtain rfl := Option.some.inj ho
          obtain ⟨rfl, rfl⟩ : 9 = k ∧ true = t := by simpa using hg
          exact hG
        | 12, _ =>
          obtain rfl := Option.some.inj ho
          obtain ⟨rfl, rfl⟩ : 9 = k ∧ true = t := by simpa using hg
          exact hG
        | 13, _ =>
          obtain rfl := Option.some.inj ho
          obtain ⟨rfl, rfl⟩ : 9 = k ∧ true = t := by simpa using hg
          exact hG
        | 14, _ =>
          obtain rfl := Option.some.inj ho
          obtain ⟨rfl, rfl⟩ : 9 = k ∧ true = t := by simpa using hg
          exact hG
        | 15, _ =>
          obtain rfl := Option.some.inj ho
          cases hg
        | 16, _ =>
          obtain rfl := Option.some.inj ho
          cases hg
        | 17, _ =>
          obtain rfl := Option.some.inj ho
          obtain ⟨rfl, rfl⟩ : 16 = k ∧ true = t := by simpa using hg
          exact hG
        | 18, _ =>
          obtain rfl := Option.some.inj ho
          obtain ⟨rfl, rfl⟩ : 16 = k ∧ true = t := by simpa using hg
          exact hG
        | 19, _ =>
          obtain rfl := Option.some.inj ho
          obtain ⟨rfl, rfl⟩ : 16 = k ∧ true = t := by simpa using hg
          exact hG
        | 20, _ =>
          obtain rfl := Option.some.inj ho
          obtain ⟨rfl, rfl⟩ : 16 = k ∧ true = t := by simpa using hg
          exact hG
        | 21, _ =>
          obtain rfl := Option.some.inj ho
          obtain ⟨rfl, rfl⟩ : 16 = k ∧ true = t := by simpa using hg
          exact hG
        | 22, _ =>
          obtain rfl := Option.some.inj ho
          obtain ⟨rfl, rfl⟩ : 16 = k ∧ true = t := by simpa using hg
          exact hG
        | 23, _ =>
          obtain rfl := Option.some.inj ho
          obtain ⟨rfl, rfl⟩ : 16 = k ∧ true = t := by simpa using hg
          exact hG
        | 24, _ =>
          obtain rfl := Option.some.inj ho
          obtain ⟨rfl, rfl⟩ : 16 = k ∧ true = t := by simpa using hg
          exact hG
        | 25, _ =>
          obtain rfl := Option.some.inj ho
          cases hg
        | 26, _ =>
          obtain rfl := Option.some.inj ho
          cases hg
        | 27, _ =>
          obtain rfl := Option.some.inj ho
          obtain ⟨rfl, rfl⟩ : 26 = k ∧ true = t := by simpa using hg
          exact hG
        | 28, _ =>
          obtain rfl := Option.some.inj ho
          obtain ⟨rfl, rfl⟩ : 26 = k ∧ true = t := by simpa using hg
          exact hG
        | 29, _ =>
          obtain rfl := Option.some.inj ho
          obtain ⟨rfl, rfl⟩ : 26 = k ∧ true = t := by simpa using hg
          exact hG
        | 30, _ =>
          obtain rfl := Option.some.inj ho
          obtain ⟨rfl, rfl⟩ : 26 = k ∧ true = t := by simpa using hg
          exact hG
        | 31, _ =>
          obtain rfl := Option.some.inj ho
          obtain ⟨rfl, rfl⟩ : 26 = k ∧ true = t := by simpa using hg
          exact hG
        | 32, _ =>
          obtain rfl := Option.some.inj ho
          obtain ⟨rfl, rfl⟩ : 26 = k ∧ true = t := by simpa using hg
          exact hG
        | 33, _ =>
          obtain rfl := Option.some.inj ho
          cases hg
        | 34, _ =>
          obtain rfl := Option.some.inj ho
          cases hg
        | n + 35, h => exact absurd h (by simp)
      case step =>
        intro i op b v ho hb hrest hdep
        have r5 : b.eval (.tmp 5) = .slice o5 0 c5 := hrest 5 (Rg.free_spec (by kernel_rfl))
        have r7 : b.eval (.tmp 7) = u7 := hrest 7 (Rg.free_spec (by kernel_rfl))
        have r0 : b.eval (.tmp 0) = .slice o f.length c := hrest 0 (Rg.free_spec (by kernel_rfl))
        have hi := (Array.getElem?_eq_some_iff.1 ho).1
        match i, hi with
        | 0, _ =>
          obtain rfl := Option.some.inj ho
          have d1 : b.eval (.tmp 5) = .slice o5 0 c5 := r5
          exact Rg.does_move rfl d1
        | 1, _ =>
          obtain rfl := Option.some.inj ho
          have d1 : (b.eval (.tmp 71)) = .slice o5 0 c5 := hdep ⟨0, .data⟩ (by simp) rfl _ _ rfl rfl
          have f1 : b.tmps[71]?.getD undef = _ := (show _ = b.eval (.tmp 71) by simp [Act.eval]).trans d1
          refine Rg.does_pure (.int .i64 0) ?_ rfl
          simp only [execOp]
          go_simp
        | 2, _ =>
          obtain rfl := Option.some.inj ho
          have d1 : (b.eval (.tmp 72)) = .int .i64 0 := hdep ⟨1, .data⟩ (by simp) rfl _ _ rfl rfl
          have f1 : b.tmps[72]?.getD undef = _ := (show _ = b.eval (.tmp 72) by simp [Act.eval]).trans d1
          refine Rg.does_pure (.bool true) ?_ rfl
          simp only [execOp]
          go_simp
        | 3, _ =>
          obtain rfl := Option.some.inj ho
          have d1 : (b.eval (.tmp 73)) = .bool true := hdep ⟨2, .data⟩ (by simp) rfl _ _ rfl rfl
          exact Rg.does_move rfl d1
        | 4, _ =>
          obtain rfl := Option.some.inj ho
          have d1 : RowV (p) (b.eval (.tmp 7)) v := by rw [r7]; exact hp.later hb
          exact Rg.does_move rfl d1
        | 5, _ =>
          obtain rfl := Option.some.inj ho
          have d1 : RowV (p) (b.eval (.tmp 75)) v := hdep ⟨4, .data⟩ (by simp) rfl _ _ rfl rfl
          obtain ⟨o3, c3, e3, hr3⟩ := d1
          have f1 : b.tmps[75]?.getD undef = _ := (show _ = b.eval (.tmp 75) by simp [Act.eval]).trans e3
          refine Rg.does_pure (.int .i64 ((p).length : Int)) ?_ rfl
          simp only [execOp]
          go_simp
        | 6, _ =>
          obtain rfl := Option.some.inj ho
          have d1 : (b.eval (.tmp 76)) = .int .i64 ((p).length : Int) := hdep ⟨5, .data⟩ (by simp) rfl _ _ rfl rfl
          have f1 : b.tmps[76]?.getD undef = _ := (show _ = b.eval (.tmp 76) by simp [Act.eval]).trans d1
          refine Rg.does_pure (.int .i64 0) ?_ rfl
          have hm8 := HP8.out
          simp only [execOp]
          go_simp
        | 7, _ =>
          obtain rfl := Option.some.inj ho
          have d1 : (b.eval (.tmp 77)) = .int .i64 0 := hdep ⟨6, .data⟩ (by simp) rfl _ _ rfl rfl
          have f1 : b.tmps[77]?.getD undef = _ := (show _ = b.eval (.tmp 77) by simp [Act.eval]).trans d1
          refine Rg.does_pure (.bool true) ?_ rfl
          simp only [execOp]
          go_simp
        | 8, _ =>
          obtain rfl := Option.some.inj ho
          have d1 : (b.eval (.tmp 74)) = .bool true := hdep ⟨3, .data⟩ (by simp) rfl _ _ rfl rfl
          have d2 : (b.eval (.tmp 78)) = .bool true := hdep ⟨7, .data⟩ (by simp) rfl _ _ rfl rfl
          exact Rg.does_pick rfl d1 d2
        | 9, _ =>
          obtain rfl := Option.some.inj ho
          have d1 : (b.eval (.tmp 79)) = .bool true := hdep ⟨8, .data⟩ (by simp) rfl _ _ rfl rfl
          exact Rg.does_move rfl d1
        | 10, _ =>
          obtain rfl := Option.some.inj ho
          have d1 : RowV (p) (b.eval (.tmp 7)) v := by rw [r7]; exact hp.later hb
          exact Rg.does_move rfl d1
        | 11, _ =>
          obtain rfl := Option.some.inj ho
          have d1 : RowV (p) (b.eval (.tmp 81)) v := hdep ⟨10, .data⟩ (by simp) rfl _ _ rfl rfl
          obtain ⟨o3, c3, e3, hr3⟩ := d1
          have f1 : b.tmps[81]?.getD undef = _ := (show _ = b.eval (.tmp 81) by simp [Act.eval]).trans e3
          refine Rg.does_pure (.int .i64 ((p).length : Int)) ?_ rfl
          simp only [execOp]
          go_simp
        | 12, _ =>
          obtain rfl := Option.some.inj ho
          have d1 : RowV (f) (b.eval (.tmp 0)) v := by rw [r0]; exact hf.later hb
          exact Rg.does_move rfl d1
        | 13, _ =>
          obtain rfl := Option.some.inj ho
          have d1 : RowV (f) (b.eval (.tmp 83)) v := hdep ⟨12, .data⟩ (by simp) rfl _ _ rfl rfl
          obtain ⟨o3, c3, e3, hr3⟩ := d1
          have f1 : b.tmps[83]?.getD undef = _ := (show _ = b.eval (.tmp 83) by simp [Act.eval]).trans e3
          refine Rg.does_pure (.int .i64 ((f).length : Int)) ?_ rfl
          simp only [execOp]
          go_simp
        | 14, _ =>
          obtain rfl := Option.some.inj ho
          have d1 : (b.eval (.tmp 82)) = .int .i64 ((p).length : Int) := hdep ⟨11, .data⟩ (by simp) rfl _ _ rfl rfl
          have d2 : (b.eval (.tmp 84)) = .int .i64 ((f).length : Int) := hdep ⟨13, .data⟩ (by simp) rfl _ _ rfl rfl
          have f1 : b.tmps[82]?.getD undef = _ := (show _ = b.eval (.tmp 82) by simp [Act.eval]).trans d1
          have f2 : b.tmps[84]?.getD undef = _ := (show _ = b.eval (.tmp 84) by simp [Act.eval]).trans d2
          refine Rg.does_pure (.bool true) ?_ rfl
          have hfp := HFP.out
          simp only [execOp]
          go_simp
        | 15, _ =>
          obtain rfl := Option.some.inj ho
          have d1 : (b.eval (.tmp 80)) = .bool true := hdep ⟨9, .data⟩ (by simp) rfl _ _ rfl rfl
          have d2 : (b.eval (.tmp 85)) = .bool true := hdep ⟨14, .data⟩ (by simp) rfl _ _ rfl rfl
          exact Rg.does_pick rfl d1 d2
        | 16, _ =>
          obtain rfl := Option.some.inj ho
          have d1 : (b.eval (.tmp 86)) = .bool true := hdep ⟨15, .data⟩ (by simp) rfl _ _ rfl rfl
          exact Rg.does_move rfl d1
        | 17, _ =>
          obtain rfl := Option.some.inj ho
          have d1 : RowV (p) (b.eval (.tmp 7)) v := by rw [r7]; exact hp.later hb
          exact Rg.does_move rfl d1
        | 18, _ =>
          obtain rfl := Option.some.inj ho
          have d1 : RowV (f) (b.eval (.tmp 0)) v := by rw [r0]; exact hf.later hb
          exact Rg.does_move rfl d1
        | 19, _ =>
          obtain rfl := Option.some.inj ho
          have d1 : RowV (f) (b.eval (.tmp 89)) v := hdep ⟨18, .data⟩ (by simp) rfl _ _ rfl rfl
          obtain ⟨o3, c3, e3, hr3⟩ := d1
          have f1 : b.tmps[89]?.getD undef = _ := (show _ = b.eval (.tmp 89) by simp [Act.eval]).trans e3
          refine Rg.does_pure (.int .i64 ((f).length : Int)) ?_ rfl
          simp only [execOp]
          go_simp
        | 20, _ =>
          obtain rfl := Option.some.inj ho
          have d1 : RowV (p) (b.eval (.tmp 88)) v := hdep ⟨17, .data⟩ (by simp) rfl _ _ rfl rfl
          have d2 : (b.eval (.tmp 90)) = .int .i64 ((f).length : Int) := hdep ⟨19, .data⟩ (by simp) rfl _ _ rfl rfl
          obtain ⟨o3, c3, e3, hr3⟩ := d1
          have f1 : b.tmps[88]?.getD undef = _ := (show _ = b.eval (.tmp 88) by simp [Act.eval]).trans e3
          have f2 : b.tmps[90]?.getD undef = _ := (show _ = b.eval (.tmp 90) by simp [Act.eval]).trans d2
          have hfp := HFP.out
          have hle := hr3.le
          have hca := hr3.cap
          simp only [bytesV_length] at hle
          unfold maxLen at hca
          have hfc : f.length ≤ c3 := by omega
          have HR3 := Lib.hid (hr3.take f.length)
          clear hr3
          refine Rg.does_pure (.slice o3 f.length c3) ?_ ⟨o3, c3, rfl, by have := HR3.out; rwa [HTK.out] at this⟩
          simp only [execOp]
          go_simp
        | 21, _ =>
          obtain rfl := Option.some.inj ho
          have d1 : RowV (f) (b.eval (.tmp 91)) v := hdep ⟨20, .data⟩ (by simp) rfl _ _ rfl rfl
          exact Rg.does_conv rfl (conv_rv d1) (rfl)
        | 22, _ =>
          obtain rfl := Option.some.inj ho
          have d1 : RowV (f) (b.eval (.tmp 0)) v := by rw [r0]; exact hf.later hb
          exact Rg.does_move rfl d1
        | 23, _ =>
          obtain rfl := Option.some.inj ho
          have d1 : RowV (f) (b.eval (.tmp 93)) v := hdep ⟨22, .data⟩ (by simp) rfl _ _ rfl rfl
          exact Rg.does_conv rfl (conv_rv d1) (rfl)
        | 24, _ =>
          obtain rfl := Option.some.inj ho
          have d1 : (b.eval (.tmp 92)) = .string ⟨(f).toArray⟩ := hdep ⟨21, .data⟩ (by simp) rfl _ _ rfl rfl
          have d2 : (b.eval (.tmp 94)) = .string ⟨(f).toArray⟩ := hdep ⟨23, .data⟩ (by simp) rfl _ _ rfl rfl
          have f1 : b.tmps[92]?.getD undef = _ := (show _ = b.eval (.tmp 92) by simp [Act.eval]).trans d1
          have f2 : b.tmps[94]?.getD undef = _ := (show _ = b.eval (.tmp 94) by simp [Act.eval]).trans d2
          refine Rg.does_pure (.bool true) ?_ rfl
          have hu := Tryd.underlying9
          simp only [execOp]
          go_simp
        | 25, _ =>
          obtain rfl := Option.some.inj ho
          have d1 : (b.eval (.tmp 87)) = .bool true := hdep ⟨16, .data⟩ (by simp) rfl _ _ rfl rfl
          have d2 : (b.eval (.tmp 95)) = .bool true := hdep ⟨24, .data⟩ (by simp) rfl _ _ rfl rfl
          exact Rg.does_pick rfl d1 d2
        | 26, _ =>
          obtain rfl := Option.some.inj ho
          have d1 : (b.eval (.tmp 96)) = .bool true := hdep ⟨25, .data⟩ (by simp) rfl _ _ rfl rfl
          exact Rg.does_move rfl d1
        | 27, _ =>
          obtain rfl := Option.some.inj ho
          have d1 : RowV (p) (b.eval (.tmp 7)) v := by rw [r7]; exact hp.later hb
          exact Rg.does_move rfl d1
        | 28, _ =>
          obtain rfl := Option.some.inj ho
          have d1 : RowV (p) (b.eval (.tmp 98)) v := hdep ⟨27, .data⟩ (by simp) rfl _ _ rfl rfl
          exact Rg.does_conv rfl (conv_rv d1) (rfl)
        | 29, _ =>
          obtain rfl := Option.some.inj ho
          have d1 : RowV (f) (b.eval (.tmp 0)) v := by rw [r0]; exact hf.later hb
          exact Rg.does_move rfl d1
        | 30, _ =>
          obtain rfl := Option.some.inj ho
          have d1 : RowV (f) (b.eval (.tmp 100)) v := hdep ⟨29, .data⟩ (by simp) rfl _ _ rfl rfl
          exact Rg.does_fn rfl (enters_of Tryd.func14 (by kernel_rfl) rfl) (args := #[b.eval (.tmp 100)]) (by simp) (pad_rv HPF.out d1 (by have := HFL.out; omega))
        | 31, _ =>
          obtain rfl := Option.some.inj ho
          have d1 : RowV (p) (b.eval (.tmp 101)) v := hdep ⟨30, .data⟩ (by simp) rfl _ _ rfl rfl
          exact Rg.does_conv rfl (conv_rv d1) (rfl)
        | 32, _ =>
          obtain rfl := Option.some.inj ho
          have d1 : (b.eval (.tmp 99)) = .string ⟨(p).toArray⟩ := hdep ⟨28, .data⟩ (by simp) rfl _ _ rfl rfl
          have d2 : (b.eval (.tmp 102)) = .string ⟨(p).toArray⟩ := hdep ⟨31, .data⟩ (by simp) rfl _ _ rfl rfl
          have f1 : b.tmps[99]?.getD undef = _ := (show _ = b.eval (.tmp 99) by simp [Act.eval]).trans d1
          have f2 : b.tmps[102]?.getD undef = _ := (show _ = b.eval (.tmp 102) by simp [Act.eval]).trans d2
          refine Rg.does_pure (.bool true) ?_ rfl
          have hu := Tryd.underlying9
          simp only [execOp]
          go_simp
        | 33, _ =>
          obtain rfl := Option.some.inj ho
          have d1 : (b.eval (.tmp 97)) = .bool true := hdep ⟨26, .data⟩ (by simp) rfl _ _ rfl rfl
          have d2 : (b.eval (.tmp 103)) = .bool true := hdep ⟨32, .data⟩ (by simp) rfl _ _ rfl rfl
          exact Rg.does_pick rfl d1 d2
        | 34, _ =>
          obtain rfl := Option.some.inj ho
          have d1 : (b.eval (.tmp 104)) = .bool true := hdep ⟨33, .data⟩ (by simp) rfl _ _ rfl rfl
          exact Rg.does_assign rfl d1
        | n + 35, h => exact absurd h (by simp)
      case fin =>
        intro b v2 hb2 hs hd hrest hall
        have h4 : b.tmps.getD 2 undef = .bool true := hall 34 _ 2 rfl rfl
        have HB := Lib.hid (Kit.step HBE.out hb2)
        go_wp2
        refine bodyPost_ret (results_tmp rfl _ _ _) hd ?_
        exact ⟨by rw [h4], HB.out⟩
end Go.Proofs.YtgifbpjmblemhaaDoor
