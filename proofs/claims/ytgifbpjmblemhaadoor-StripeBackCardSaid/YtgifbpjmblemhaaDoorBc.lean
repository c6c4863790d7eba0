/- The code's Blocks: all blocks of a file. -/
import Derived.Test.YtgifbpjmblemhaaDoorBs
namespace Go.Proofs.YtgifbpjmblemhaaDoor
open Go.RowKit
set_option linter.unusedVariables false
set_option linter.unusedSimpArgs false
theorem szG_mem (l : List Nat) (k : Nat) (h : k < l.length) : szG l k ∈ l := by
  unfold szG
  rw [List.getD_eq_getElem?_getD, List.getElem?_eq_getElem h]
  exact List.getElem_mem h
theorem dat_part (p : List UInt8) (a n k : Nat) (h : k ≤ n) : (dat p a n).take k = dat p a k ∧ (dat p a n).drop k = dat p (a + k) (n - k) := by
  obtain ⟨d, rfl⟩ : ∃ d, n = k + d := ⟨n - k, by omega⟩
  rw [dat_app]
  have hl : (dat p a k).length = k := dat_length _ _ _
  constructor
  · rw [List.take_left' hl]
  · rw [List.drop_left' hl, show k + d - k = d by omega]
theorem RbIs.take {W : World} {o : Option Addr} {bs : List (List UInt8)} {c : Nat} (h : RbIs W o bs c) (k : Nat) (hk : k ≤ bs.length) : RbIs W o (bs.take k) c := by
  obtain ⟨xs, h1, h2⟩ := h
  have hl := h2.len
  have hle := h1.le
  refine ⟨xs.take k, ⟨by simp; omega, h1.cap, h1.nil, fun h0 => ?_⟩, ?_⟩
  · obtain ⟨b, off, e, hlt, hc⟩ := h1.cells (by simp at h0; omega)
    refine ⟨b, off, e, hlt, fun i v hv => hc i v ?_⟩
    have hi := (List.getElem?_eq_some_iff.1 hv).1
    simp at hi
    rw [← hv, List.getElem?_take_of_lt (by omega)]
  · have := h2.part 0 k
    rw [List.drop_zero, List.drop_zero] at this
    exact this
theorem RbIs.drop {W : World} {b off : Nat} {bs : List (List UInt8)} {c : Nat} (h : RbIs W (some ⟨b, off, none⟩) bs c) (k : Nat) (hk : k ≤ bs.length) : RbIs W (some ⟨b, off + k, none⟩) (bs.drop k) (c - k) := by
  have h1 := h.le
  have h2 := h.part k (bs.length - k) (by omega) (c - k) (by omega) (by omega)
  rw [List.take_of_length_le (by simp)] at h2
  exact h2
def F3 (a b c : List (List UInt8)) (i : Nat) : List (List UInt8) := if i = 0 then a else if i = 1 then b else c
theorem catB_three (a b c : List (List UInt8)) : catB (F3 a b c) 3 = a ++ (b ++ c) := by simp [catB, F3]
theorem lenB_three (a b c : List (List UInt8)) : lenB (F3 a b c) 3 = a.length + b.length + c.length := by simp [lenB, F3]
def CbkAt (p : List UInt8) (l : List Nat) (m : Nat) (w : World) (v6 v7 iv : Value) (wr : World) : Prop :=
  ∃ k : Nat, k ≤ l.length ∧ iv = .int .i64 k ∧ RbV (grps p 0 (l.take k)) v6 wr ∧ RbV (dat p (sumN (l.take k)) (m - sumN (l.take k))) v7 wr ∧ Below w.heap.size w wr
theorem cblocks_bad (m c : Nat) (o : Option Addr) (w : World) (u : TypeId) (v : Value) (h : 2000 < m) (hm : m ≤ 9223372036854775807) (hE : w.cell? ⟨7, 0, none⟩ = some (.iface u v)) :
    Calls Tryd.prog 9 #[.slice o m c] w fun e w' => e = .returned (.tuple #[.slice none 0 0, .iface u v]) ∧ Below w.heap.size w w' := by
  have HS := Lib.hid (shape_bad (m : Int) w u v (by omega) hE)
  clear h hE
  go_enter Tryd.func9, Tryd.ntmps9
  go_wp2_with fail
  refine HS.out.mono ?_; rintro e w1 ⟨rfl, hb⟩
  have HB := Lib.hid hb
  clear hb HS
  go_wp2_with fail
  go_ret2
  exact ⟨rfl, HB.out⟩
set_option maxRecDepth 100000 in
set_option maxHeartbeats 4000000 in
theorem cblocks_any (f : List UInt8) (o : Option Addr) (c : Nat) (w : World) (hR : RowIs w o (bytesV f) c) (hl : f.length ≤ 2000) :
    Calls Tryd.prog 9 #[.slice o f.length c] w fun e w' => ∃ x, e = .returned (.tuple #[x, .nilIface]) ∧ RbV (allB f) x w' ∧ Below w.heap.size w w' := by
  have h1 := hR.le
  have h2 := hR.cap
  simp only [bytesV_length] at h1
  unfold maxLen at h2
  have HR := Lib.hid hR
  have hs := shape_any f.length w hl
  have hnb := nbk_bd f.length hl
  have hnp := nbk_pos f.length
  have hll := shp_len f.length
  have hss := shp_sum f.length
  have hmem := shpN_mem (nbk f.length) hnp hnb
  have hpl := padL_length f
  have hall : allB f = grps (padL f) 0 (shp f.length) := rfl
  change ∀ k ∈ shp f.length, _ at hmem
  obtain ⟨l, hlq⟩ : ∃ l, shp f.length = l := ⟨_, rfl⟩
  obtain ⟨m, hmq⟩ : ∃ m, nbk f.length = m := ⟨_, rfl⟩
  obtain ⟨p, hpq⟩ : ∃ p, padL f = p := ⟨_, rfl⟩
  have HPD : Hid (∀ v, Below w.heap.size w v → Calls Tryd.prog 14 #[.slice o f.length c] v (Own p v)) := Lib.hid fun v hb => by
    have := pad_own f o c v (hR.later hb) (by omega)
    rwa [hpq] at this
  rw [hlq] at hs hll hss hmem hall
  rw [hmq] at hnb hnp hss hpl
  rw [hpq] at hpl hall
  have HS := Lib.hid hs
  have HSS := Lib.hid hss
  have HMM := Lib.hid hmem
  have HPL := Lib.hid hpl
  have HALL := Lib.hid hall
  obtain ⟨M, hM⟩ : ∃ M, 8 * m = M := ⟨_, rfl⟩
  have HM := Lib.hid hM
  have hM1 : M ≤ 2000 := by omega
  clear hR hs hss hmem hpl hall hlq hmq hpq hM
  go_enter Tryd.func9, Tryd.ntmps9
  go_wp2_with fail
  refine HS.out.mono ?_; rintro e w1 ⟨x, rfl, ⟨o1, c1, rfl, hr⟩, hb⟩
  have hc1 := hr.cap
  have hle1 := hr.le
  simp at hle1
  unfold maxLen at hc1
  have HB1 := Lib.hid hb
  have HR1 := Lib.hid hr
  rw [natI_length]
  clear hb hr HS
  go_wp2_with fail
  refine (HPD.out _ HB1.out).mono ?_; rintro e w2 ⟨g, cap, rfl, hg, hbuf, hb⟩
  have hsp := split_any p m M g cap w2 HM.out.symm (by omega) hbuf (by rw [HPL.out, HM.out])
  rw [HPL.out, HM.out]
  have HB2 := Lib.hid (Kit.step HB1.out hb)
  have HR2 := Lib.hid (HR1.out.later hb)
  have HSP := Lib.hid hsp
  clear hg hbuf hb hsp HPD HR1
  go_wp2_with fail
  refine HSP.out.mono ?_; rintro e w3 ⟨x7, rfl, hx7, hb⟩
  have HB3 := Lib.hid (Kit.step HB2.out hb)
  have HR3 := Lib.hid (HR2.out.later hb)
  have HX7 := Lib.hid hx7
  clear hb hx7 HSP HR2
  go_wp2_with fail
  go_loopw [6, 7, 9, 10, 11, 12, 27] (fun v6 v7 _ _ _ _ iv wr => CbkAt p l m w3 v6 v7 iv wr) (fun _ _ _ _ _ _ iv _ => l.length - (intOf iv).toNat)
  case atStart => exact ⟨0, Nat.zero_le _, rfl, ⟨none, 0, rfl, RbIs.empty none 0 (Nat.zero_le _) (fun _ => rfl)⟩, by simpa using HX7.out, Below.refl _ _⟩
  case round =>
    obtain ⟨k, hk, rfl, ⟨o6, c6, rfl, hv6⟩, ⟨o7, c7, rfl, hv7⟩, hbw⟩ := hrel
    have HBW := Lib.hid hbw
    have HV6 := Lib.hid hv6
    have HV7 := Lib.hid hv7
    rw [dat_length]
    by_cases hlt : k < l.length
    · obtain ⟨b1, off1, rfl, _, hcl⟩ := natI_cell (HR3.out.later hbw) k hlt
      change wr.cell? _ = some (.int .i64 ((szG l k : Nat) : Int)) at hcl
      have hst := sumN_take_succ l k hlt
      change _ = _ + szG l k at hst
      have hsl := sumN_take_le l (k + 1)
      rw [HSS.out] at hsl
      have hmk := HMM.out _ (szG_mem l k hlt)
      have hgl : (grps p 0 (l.take k)).length = sumN (l.take k) + 32 * k := by
        rw [grps_length, List.length_take]; congr 1; omega
      have hgn : grps p 0 (l.take (k + 1)) = grps p 0 (l.take k) ++ grpB p (sumN (l.take k)) (szG l k) := by
        have e : l.take (k + 1) = l.take k ++ [szG l k] := by
          rw [List.take_add_one, List.getElem?_eq_getElem hlt]
          simp [szG, List.getD_eq_getElem?_getD, List.getElem?_eq_getElem hlt]
        rw [e, grps_snoc, Nat.zero_add]
      obtain ⟨a, ha⟩ : ∃ a, sumN (l.take k) = a := ⟨_, rfl⟩
      obtain ⟨s, hs⟩ : ∃ s, szG l k = s := ⟨_, rfl⟩
      obtain ⟨G, hG⟩ : ∃ G, grps p 0 (l.take k) = G := ⟨_, rfl⟩
      obtain ⟨r, hr⟩ : ∃ r, m - a = r := ⟨_, rfl⟩
      rw [ha] at hst hgl hgn hv7 ⊢
      rw [hs] at hcl hst hmk hgn
      rw [hG] at hgl hgn hv6 ⊢
      rw [hr] at hv7 ⊢
      have hk0 : (0 : Int) ≤ (k : Int) := by omega
      have hk1 : (k : Int) < (l.length : Int) := by omega
      have hsr : s ≤ r := by omega
      have has : a + s ≤ 250 := by omega
      have hs1 := hmk.1
      have hs2 := hmk.2
      have hdp := dat_part p a r s hsr
      have h7le := hv7.le
      rw [dat_length] at h7le
      have h71 := h7le.1
      have h72 := h7le.2
      unfold maxLen at h72
      have h6le := hv6.le
      have h61 := h6le.1
      have h62 := h6le.2
      unfold maxLen at h62
      obtain ⟨b7, off7, p7, q7, rfl, _⟩ := hv7.cell 0 (by rw [dat_length]; omega)
      have hdt := hv7.take s (by rw [dat_length]; exact hsr)
      have hdd := hv7.drop s (by rw [dat_length]; exact hsr)
      rw [hdp.1] at hdt
      rw [hdp.2] at hdd
      have hpar := parity_any (dat p a s) (some ⟨b7, off7, none⟩) s c7 wr hdt (dat_length _ _ _) hs1 hs2
      have HPA := Lib.hid hpar
      have HDT := Lib.hid hdt
      have HDD := Lib.hid hdd
      have HGN := Lib.hid hgn
      have HGL := Lib.hid hgl
      have HST := Lib.hid hst
      have HRR := Lib.hid hr
      have HV6' := Lib.hid hv6
      have hsr0 : (s : Int) ≤ (r : Int) := by omega
      have hsc : (s : Int) ≤ (c7 : Int) := by omega
      clear hbw hv6 hv7 hst hsl hmk hgl hgn ha hs hG hr hdp h7le h6le hdt hdd hpar HV6 HV7
      go_wp2_with fail
      refine HPA.out.mono ?_; rintro e w4 ⟨gO, Gb, rfl, hm4, hb4⟩
      have HB4 := Lib.hid (Kit.step HBW.out hb4)
      obtain ⟨gl, hgl⟩ : ∃ gl, G.length = gl := ⟨_, rfl⟩
      obtain ⟨w5, hw5⟩ : ∃ w5, w4.alloc (.cells #[.slice o6 gl c6, .slice (some ⟨b7, off7, none⟩) s c7, .slice (some ⟨gO, 0, none⟩) 32 32] 25) = w5 := ⟨_, rfl⟩
      have hb5 : Below w4.heap.size w4 w5 := by rw [← hw5]; exact below_new _ _
      have hh5 : w5.heap[w4.heap.size]? = some (.cells #[.slice o6 gl c6, .slice (some ⟨b7, off7, none⟩) s c7, .slice (some ⟨gO, 0, none⟩) 32 32] 25 (0, 0)) := by rw [← hw5]; exact World.alloc_heap_new _ _
      have hrb := hm4.els (parB (dat p a s)) (parB_length _) (fun i hi => pM_bi _ i hi)
      have hparts : PartsB w5 w4.heap.size 3 (F3 G (dat p a s) (parB (dat p a s))) := ⟨(Array.getElem?_eq_some_iff.1 hh5).1, fun i hi => by
        match i, hi with
        | 0, _ => exact ⟨o6, c6, by rw [cell_of_row _ _ _ _ _ _ hh5, ← hgl]; rfl, (HV6'.out.later hb4).later hb5⟩
        | 1, _ => exact ⟨_, c7, by rw [cell_of_row _ _ _ _ _ _ hh5]; show some _ = some (Value.slice _ (dat p a s).length c7); rw [dat_length]; rfl, (HDT.out.later hb4).later hb5⟩
        | 2, _ => exact ⟨_, 32, by rw [cell_of_row _ _ _ _ _ _ hh5]; show some _ = some (Value.slice _ (parB (dat p a s)).length 32); rw [parB_length]; rfl, hrb.later hb5⟩⟩
      have hcc := concatB_any _ 3 w4.heap.size w5 hparts (by omega) (by rw [lenB_three, dat_length, parB_length]; omega) (by rw [lenB_three, dat_length, parB_length, HGL.out]; omega)
      rw [catB_three, show G ++ (dat p a s ++ parB (dat p a s)) = grps p 0 (l.take (k + 1)) by rw [HGN.out]; rfl] at hcc
      rw [← hw5] at hcc
      have HCC := Lib.hid hcc
      have HW5 := Lib.hid hw5
      have HB5 := Lib.hid (Kit.step HB4.out hb5)
      have HD5 := Lib.hid ((HDD.out.later hb4).later hb5)
      rw [hgl]
      clear hm4 hb4 hgl hw5 hb5 hh5 hrb hparts hcc HPA HDD
      go_wp2_with fail
      refine HCC.out.mono ?_; rintro e w6 ⟨x6, rfl, hx6, hb6⟩
      rw [HW5.out] at hb6
      have HB6 := Lib.hid (Kit.step HB5.out hb6)
      have HX6 := Lib.hid hx6
      have HD6 := Lib.hid (HD5.out.later hb6)
      clear hx6 hb6 HCC HD5
      have hrs := HST.out
      have hrr := HRR.out
      have HEQ : Hid (m - sumN (l.take (k + 1)) = r - s) := Lib.hid (by omega)
      clear hrs hrr
      by_cases hcs : c7 = s
      · have hrs : r = s := by omega
        subst hrs
        have HCS := Lib.hid hcs
        have hrr0 : r - r = 0 := Nat.sub_self _
        have HR0 := Lib.hid hrr0
        clear hrr0
        go_wp2_with fail
        go_roundw
        case rel => exact ⟨k + 1, by omega, by go_num, HX6.out, by rw [HEQ.out, HR0.out]; exact ⟨_, 0, rfl, RbIs.empty _ 0 (Nat.zero_le _) (fun e => by cases e)⟩, HB6.out⟩
        case measure => simp [intOf]; omega
      · have hcs2 : ¬ c7 = s := hcs
        go_wp2_with fail
        go_roundw
        case rel => exact ⟨k + 1, by omega, by go_num, HX6.out, by rw [HEQ.out, HST.out]; exact ⟨_, _, by rw [dat_length], HD6.out⟩, HB6.out⟩
        case measure => simp [intOf]; omega
    · obtain rfl : k = l.length := by omega
      have hl6 : RbIs wr o6 (allB f) c6 := by rw [HALL.out, ← List.take_length (l := l)]; exact HV6.out
      have HL6 := Lib.hid hl6
      have HLL : Hid ((grps p 0 (l.take l.length)).length = (allB f).length) := Lib.hid (by rw [HALL.out, List.take_length])
      clear hbw hv6 hv7 hl6
      go_wp2_with fail
      go_ret2
      exact ⟨_, rfl, ⟨o6, c6, by rw [← HLL.out]; rfl, HL6.out⟩, HB3.out.trans (HBW.out.mono HB3.out.size)⟩
end Go.Proofs.YtgifbpjmblemhaaDoor
