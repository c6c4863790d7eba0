/- The walk of StripeBack. -/
import Derived.Test.YtgifbpjmblemhaaDoorBt
import Derived.Test.YtgifbpjmblemhaaDoorSsh
namespace Go.Proofs.YtgifbpjmblemhaaDoor
open Go.RowKit
set_option linter.unusedVariables false
set_option linter.unusedSimpArgs false
theorem sbk_long (m c M cz : Nat) (o oz : Option Addr) (w : World) (h : 2000 < m ∨ 80 < M) (hm : m ≤ 9223372036854775807) (hM : M ≤ 9223372036854775807) :
    Calls Tryd.prog 5 #[.slice o m c, .slice oz M cz] w fun e w' => e = .returned (.bool true) ∧ Below w.heap.size w w' := by
  by_cases h1 : 2000 < m
  · have hd1 : decide ((2000 : Int) < (m : Int)) = true := decide_eq_true (by omega)
    clear h h1
    go_enter Tryd.func5, Tryd.ntmps5
    go_wp2_with fail
    refine (alive6_any _).mono ?_; rintro e w1 ⟨rfl, hb⟩
    have HB := Lib.hid hb
    clear hb
    go_wp2_with fail
    go_ret
    exact ⟨rfl, HB.out⟩
  · have hd1 : decide ((2000 : Int) < (m : Int)) = false := decide_eq_false (by omega)
    have hd2 : decide ((80 : Int) < (M : Int)) = true := decide_eq_true (by omega)
    clear h h1
    go_enter Tryd.func5, Tryd.ntmps5
    go_wp2_with fail
    refine (alive6_any _).mono ?_; rintro e w1 ⟨rfl, hb⟩
    have HB := Lib.hid hb
    clear hb
    go_wp2_with fail
    go_ret
    exact ⟨rfl, HB.out⟩
set_option maxRecDepth 100000 in
set_option maxHeartbeats 2000000 in
theorem sbk_main (f : List UInt8) (zs : List HitT) (M : Nat) (o oz : Option Addr) (c cz : Nat) (w : World) (A : Nat → Addr) (hE : Er.Six w A) (hR : RowIs w o (bytesV f) c) (hZ : HitsIs w oz zs cz) (hM : zs.length = M) (hl : f.length ≤ 2000) (hz : M ≤ 80) :
    Calls Tryd.prog 5 #[.slice o f.length c, .slice oz M cz] w fun e w' => e = .returned (.bool true) ∧ Below w.heap.size w w' := by
  have hd1 : decide ((2000 : Int) < (f.length : Int)) = false := decide_eq_false (by omega)
  have hd2 : decide ((80 : Int) < (M : Int)) = false := decide_eq_false (by omega)
  have h1 := hR.le
  have h2 := hR.cap
  simp only [bytesV_length] at h1
  unfold maxLen at h2
  have hnb := nbk_bd f.length hl
  have hnp := nbk_pos f.length
  have hmem : ∀ k ∈ shp f.length, 1 ≤ k ∧ k ≤ 223 := shpN_mem (nbk f.length) hnp hnb
  have h8 : ∀ i, i < (allB f).length → (bi (allB f) i).length = 8 := fun i hi => by
    unfold bi
    rw [List.getD_eq_getElem?_getD, List.getElem?_eq_getElem hi]
    exact grps_eight _ _ _ _ (List.getElem_mem hi)
  obtain ⟨l, hlq⟩ : ∃ l, shp f.length = l := ⟨_, rfl⟩
  obtain ⟨N, hN⟩ : ∃ N, (allB f).length = N := ⟨_, rfl⟩
  have hT : N = sumN l + 32 * l.length := by
    rw [← hN, ← hlq]
    exact grps_length _ _ _
  have hall : allB f = grps (padL f) 0 l := by rw [← hlq]; rfl
  have hfp := file_pad f l hlq
  rw [hN] at h8
  rw [hlq] at hmem
  have hcode : ∀ a : List (List UInt8), a.length = N → (∀ g, g < l.length → wtG a (allB f) l g ≤ 32) → MndAll a l (colW (padL f) l) l.length := fun a ha hw => mnd_all _ l a hmem (by rw [ha, hT]) (by rw [← hall]; exact hw)
  have hres : ∀ (a : List (List UInt8)) V, MndAll a l V l.length → MndAll a l (colW (padL f) l) l.length → fileG l V l.length = padL f := fun a V h k => by rw [(h.uniq k).1, hfp]
  have hpt := pad_take f
  have hpz := pad_zall f
  have HR := Lib.hid hR
  have HE := Lib.hid hE
  have HZ := Lib.hid hZ
  have HM := Lib.hid hM
  have HLQ := Lib.hid hlq
  have HN := Lib.hid hN
  have HT := Lib.hid hT
  have H8 := Lib.hid h8
  have HC := Lib.hid hcode
  have HRES := Lib.hid hres
  have HPT := Lib.hid hpt
  have HPZ := Lib.hid hpz
  have HFP := Lib.hid hfp
  have HL := Lib.hid hl
  have HZZ := Lib.hid hz
  have hNb : N ≤ 100000 := by
    have := allB_length f
    have := totN_bd (nbk f.length) hnb
    omega
  clear hR hE hZ hM hlq hN hT h8 hcode hres hpt hpz hfp hmem hall
  go_enter Tryd.func5, Tryd.ntmps5
  go_wp2_with fail
  refine (alive6_any _).mono ?_; rintro e w1 ⟨rfl, hb⟩
  have HB1 := Lib.hid hb
  clear hb
  go_wp2_with fail
  refine (cblocks_any f o c w1 (HR.out.later HB1.out) HL.out).mono ?_; rintro e w2 ⟨x, rfl, ⟨o2, c2, rfl, hx⟩, hb⟩
  have hx1 := hx.le
  rw [HN.out] at hx1
  unfold maxLen at hx1
  have HB2 := Lib.hid (Kit.step HB1.out hb)
  have HX := Lib.hid hx
  rw [HN.out]
  clear hb hx
  go_wp2_with fail
  refine (bent_any (allB f) f.length N c2 cz M l HLQ.out o2 oz zs w2 HX.out HN.out HT.out HL.out H8.out (HZ.out.later HB2.out) HM.out HZZ.out).mono ?_; rintro e w3 ⟨hb, v, ok, rfl, hok⟩
  have HB3 := Lib.hid (Kit.step HB2.out hb)
  have HOK := Lib.hid hok
  clear hb hok
  by_cases hq : ok = true
  · subst hq
    obtain ⟨a, hal, ⟨o3, c3, rfl, hv⟩, hw⟩ := HOK.out rfl
    rw [hal]
    have hv1 := hv.le
    rw [hal] at hv1
    unfold maxLen at hv1
    have HV := Lib.hid hv
    have HMA := Lib.hid (HC.out a hal hw)
    have HAL := Lib.hid hal
    clear hv hw hal HOK HC
    go_wp2_with fail
    refine (rebuild_of a f.length N c3 l HLQ.out o3 w3 A (HE.out.later HB3.out) HV.out HL.out HAL.out HT.out).mono ?_; rintro e w4 ⟨hb, ⟨hno, _⟩ | ⟨V, x0, x1, x2, hM, hz, rfl, hx0, hx1, hx2⟩⟩
    · exact absurd (by rw [HFP.out]; exact HPZ.out) (hno _ HMA.out)
    · have hf := HRES.out a V hM HMA.out
      rw [hf, HPT.out] at hx0
      obtain ⟨o4, c4, rfl, hx0⟩ := hx0
      obtain ⟨o5, c5, rfl, _⟩ := hx1
      obtain ⟨o6, c6, rfl, _⟩ := hx2
      obtain ⟨d5, hd5⟩ : ∃ d, (erG a l l.length).length = d := ⟨_, rfl⟩
      obtain ⟨d6, hd6⟩ : ∃ d, (chG a l V l.length).length = d := ⟨_, rfl⟩
      rw [hd5, hd6]
      obtain ⟨w5, hw5⟩ : ∃ w5, w4.alloc (.cells #[.slice o4 f.length c4, .slice o5 d5 c5, .slice o6 d6 c6] 51) = w5 := ⟨_, rfl⟩
      have hb5 : Below w4.heap.size w4 w5 := by rw [← hw5]; exact (Below.refl _ _).alloc (Nat.le_refl _) _
      have hg5 : w5.heap[w4.heap.size]? = some (.cells #[.slice o4 f.length c4, .slice o5 d5 c5, .slice o6 d6 c6] 51 (0, 0)) := by rw [← hw5]; exact World.alloc_heap_new _ _
      have hcc := (rd_cells hg5).1
      have k1 := conv_rv (⟨o4, c4, rfl, hx0.later hb5⟩ : RowV f (.slice o4 f.length c4) w5)
      have HB5 := Lib.hid (Kit.step (Kit.step HB3.out hb) hb5)
      have k2 := conv_rv (⟨o, c, rfl, HR.out.later HB5.out⟩ : RowV f (.slice o f.length c) w5)
      have HW5 := Lib.hid hw5
      clear hb hM hz hx0 hf hd5 hd6 hw5 hb5 hg5
      go_wp2_with (rw [HW5.out])
      go_ret
      exact ⟨rfl, HB5.out⟩
  · obtain rfl : ok = false := by simpa using hq
    clear HOK hq
    go_wp2_with fail
    go_ret
    exact ⟨rfl, HB3.out⟩
theorem sbk_walk (f : List UInt8) (zs : List HitT) (o oz : Option Addr) (c cz : Nat) (w : World) (A : Nat → Addr) (hE : Er.Six w A) (hR : RowIs w o (bytesV f) c) (hZ : HitsIs w oz zs cz) :
    Calls Tryd.prog 5 #[.slice o f.length c, .slice oz zs.length cz] w fun e w' => e = .returned (.bool true) ∧ Below w.heap.size w w' := by
  have h1 := hR.le
  have h2 := hR.cap
  have h3 := hZ.le
  have h4 := hZ.cap
  simp only [bytesV_length] at h1
  unfold maxLen at h2 h4
  by_cases h : 2000 < f.length ∨ 80 < zs.length
  · exact sbk_long _ _ _ _ o oz w h (by omega) (by omega)
  · exact sbk_main f zs _ o oz c cz w A hE hR hZ rfl (by omega) (by omega)
end Go.Proofs.YtgifbpjmblemhaaDoor
