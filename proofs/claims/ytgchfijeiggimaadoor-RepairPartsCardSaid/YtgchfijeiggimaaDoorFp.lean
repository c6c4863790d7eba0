/- Mending by Forney's rule, plain: if the errata locator has as many roots among the places as its degree, the amounts make the syndromes. -/
import Derived.Test.YtgchfijeiggimaaDoorFs
namespace Go.Proofs.YtgchfijeiggimaaDoor
set_option linter.unusedVariables false
theorem inv_only {a y : UInt8} (h : Gf.gm a y = 1) : y = Gf.gd 1 a := by
  have ha : a ≠ 0 := fun e => by rw [e, Gf.zero_gm] at h; exact absurd h (by decide)
  have h2 := Gf.gd_gm 1 a ha
  have h3 : Gf.gm a (y ^^^ Gf.gd 1 a) = 0 := by rw [Gf.gm_xor, h, Gf.gm_comm a, h2, UInt8.xor_self]
  exact Gf.xor_eq_zero _ _ ((Gf.gm_eq_zero a _ ha).1 h3)
/-- a quotient is the only one -/
theorem gd_only {a b c : UInt8} (hb : b ≠ 0) (h : Gf.gm c b = a) : Gf.gd a b = c := by
  have h2 := Gf.gd_gm a b hb
  have h3 : Gf.gm b (Gf.gd a b ^^^ c) = 0 := by rw [Gf.gm_xor, Gf.gm_comm b, h2, Gf.gm_comm b, h, UInt8.xor_self]
  exact Gf.xor_eq_zero _ _ ((Gf.gm_eq_zero b _ hb).1 h3)
/-- the inverse of a place's value -/
def vi (n p : Nat) : UInt8 := Gf.gd 1 (Gf.al (n - 1 - p))
theorem vi_one (n p : Nat) : Gf.gm (Gf.al (n - 1 - p)) (vi n p) = 1 := by
  obtain ⟨y, hy⟩ := al_inv (n - 1 - p)
  rw [vi, ← inv_only hy]
  exact hy
/-- the places of a polynomial's roots -/
def srP (P : List UInt8) (n k : Nat) : List Nat := (List.range k).filter fun p => decide (evL P (vi n p) = 0)
theorem srP_nodup (P : List UInt8) (n k : Nat) : (srP P n k).Nodup := List.nodup_range.sublist List.filter_sublist
theorem mem_srP {P : List UInt8} {n k p : Nat} : p ∈ srP P n k ↔ p < k ∧ evL P (vi n p) = 0 := by
  unfold srP
  rw [List.mem_filter, List.mem_range, decide_eq_true_eq]
theorem srP_no {P : List UInt8} {n k : Nat} (h : ¬ evL P (vi n k) = 0) : srP P n (k + 1) = srP P n k := by
  unfold srP
  rw [List.range_succ, List.filter_append]
  simp [h]
theorem srP_yes {P : List UInt8} {n k : Nat} (h : evL P (vi n k) = 0) : srP P n (k + 1) = srP P n k ++ [k] := by
  unfold srP
  rw [List.range_succ, List.filter_append]
  simp [h]
theorem srP_le (P : List UInt8) (n k : Nat) : (srP P n k).length ≤ k := by
  have := List.length_filter_le (fun p => decide (evL P (vi n p) = 0)) (List.range k)
  rwa [List.length_range] at this
def srI (P : List UInt8) (n k : Nat) : List Int := (srP P n k).map fun p : Nat => (p : Int)
theorem srI_length (P : List UInt8) (n k : Nat) : (srI P n k).length = (srP P n k).length := by simp [srI]
/-- what is added at a place -/
def amt (G O : List UInt8) (n p : Nat) : UInt8 := Gf.gd (Gf.gm (Gf.al (n - 1 - p)) (evL O (vi n p))) (evL (slopeL G) (vi n p))
theorem lowN32 (m : Nat) : lowN 32 m = if m < 32 then m else 32 := by
  unfold lowN
  rw [if_neg (by decide)]
  split <;> split <;> first | rfl | omega
theorem low_co (Q : List UInt8) (k : Nat) : co (tr (Q.take (lowN 32 Q.length))) k = if k < 32 then co Q k else 0 := by
  rw [co_tr, co_take, lowN32]
  by_cases h2 : Q.length < 32
  · rw [if_pos h2]
    by_cases h3 : k < Q.length
    · rw [if_pos h3, if_pos (by omega)]
    · rw [if_neg h3, co_ge (by omega : Q.length ≤ k)]
      by_cases h4 : k < 32
      · rw [if_pos h4]
      · rw [if_neg h4]
  · rw [if_neg h2]
theorem co_eva (s C : List UInt8) (n : Nat) (z : List Int) (k : Nat) : co (evaL s C n z) k = if k < 32 then Gf.cv (co (ertL C n z)) (co s) k else 0 := by
  unfold evaL
  generalize ertL C n z = G
  rw [low_co, co_tr, mulL_congr (a := tr s) (b := s) (c := G) (d := G) (co_tr s) (fun _ => rfl) k, Gf.cv_mulL, Gf.cv_comm]
/-- the errata locator's length -/
theorem ert_len {C : List UInt8} {n L : Nat} {z : List Int} (h1 : C.length ≤ L + 1) (h2 : L < (tr C).length) : (ertL C n z).length = L + z.length + 1 := by
  unfold ertL
  have h3 := tr_le C
  have h4 : (tr C).length = L + 1 := by omega
  have h5 : co C L ≠ 0 := by
    have := tl_top C C.length (by rw [← tr_length]; omega)
    rwa [← tr_length, h4, Nat.add_sub_cancel] at this
  have h6 : co (Gf.locL (xsL n z)) z.length ≠ 0 := by
    have := Gf.loc_top (xsL n z) (fun y hy => by
      obtain ⟨q, _, rfl⟩ := List.mem_map.1 hy
      exact Gf.al_ne _)
    rwa [show (xsL n z).length = z.length by simp [xsL]] at this
  have hl : (mulL (tr C) (Gf.locL (xsL n z))).length = L + 1 + (z.length + 1) := by unfold mulL; rw [tab_length, h4, loc_len]
  rw [tr_length, hl]
  refine tl_unique _ _ _ (by omega) (fun i hi _ => ?_) (fun _ => ?_)
  · rw [co_mulL']
    refine Gf.sm_zero fun a ha => ?_
    by_cases h7 : a ≤ L
    · rw [show co (Gf.locL (xsL n z)) (i - a) = 0 from co_ge (by rw [loc_len]; omega), Gf.gm_zero]
    · rw [show co (tr C) a = 0 from co_ge (by omega), Gf.zero_gm]
  · rw [Nat.add_sub_cancel, co_mulL']
    have e : Gf.sm (fun i => Gf.gm (co (tr C) i) (co (Gf.locL (xsL n z)) (L + z.length - i))) (L + z.length + 1) = Gf.gm (co C L) (co (Gf.locL (xsL n z)) z.length) := by
      rw [Gf.sm_more (n := L + 1) (by omega) (fun i hi => by rw [show co (tr C) i = 0 from co_ge (by omega), Gf.zero_gm])]
      show Gf.sm _ L ^^^ Gf.gm (co (tr C) L) (co (Gf.locL (xsL n z)) (L + z.length - L)) = _
      rw [Gf.sm_zero fun i hi => by rw [show co (Gf.locL (xsL n z)) (L + z.length - i) = 0 from co_ge (by rw [loc_len]; omega), Gf.gm_zero], UInt8.zero_xor, co_tr, Nat.add_sub_cancel_left]
    rw [e]
    exact fun e => h6 ((Gf.gm_eq_zero _ _ h5).1 e)
theorem ert_co (C : List UInt8) (n : Nat) (z : List Int) (k : Nat) : co (ertL C n z) k = co (mulL C (Gf.locL (xsL n z))) k := by
  unfold ertL
  rw [co_tr]
  exact mulL_congr (a := tr C) (b := C) (c := Gf.locL (xsL n z)) (d := Gf.locL (xsL n z)) (co_tr C) (fun _ => rfl) k
theorem ert_ev (C : List UInt8) (n : Nat) (z : List Int) (y : UInt8) : evL (ertL C n z) y = Gf.gm (evL C y) (evL (Gf.locL (xsL n z)) y) := by
  rw [evL_congr (ert_co C n z), evL_mul]
/-- roots among the places, as many as the degree: then there is a register with just so many roots -/
theorem roots_reg {W C : List UInt8} {n L : Nat} {z : List Int} (hrf : RF (forL (synL W) (Gf.locL (xsL n z))) C L) (hW : W.length = n) (hn : n ≤ 255) (hok : EOk n z) (hf : 2 * L + z.length ≤ 32) (hC : L < (tr C).length)
    (hS : (srP (ertL C n z) n n).length = L + z.length) : ∃ H, Reg W C n L z H ∧ All n z H (srP (ertL C n z) n n) := by
  have hmem : ∀ p, p < n → (p ∈ srP (ertL C n z) n n ↔ ((p : Int) ∈ z ∨ evL C (vi n p) = 0)) := fun p hp => by
    rw [mem_srP, ert_ev]
    have h1 := Gf.loc_zero (xsL n z) (Gf.al (n - 1 - p)) (vi n p) (Gf.al_ne _) (vi_one n p)
    rw [mem_xsL hn hp hok.1] at h1
    constructor
    · rintro ⟨_, h2⟩
      by_cases h3 : (p : Int) ∈ z
      · exact .inl h3
      · refine .inr ?_
        rw [Gf.gm_comm] at h2
        exact (Gf.gm_eq_zero _ _ (fun e => h3 (h1.1 e))).1 h2
    · rintro (h2 | h2)
      · exact ⟨hp, by rw [h1.2 h2, Gf.gm_zero]⟩
      · exact ⟨hp, by rw [h2, Gf.zero_gm]⟩
  have hlt : ∀ p ∈ srP (ertL C n z) n n, p < n := fun p hp => (mem_srP.1 hp).1
  have hHm : ∀ p, p ∈ (srP (ertL C n z) n n).filter (fun p : Nat => decide ((p : Int) ∉ z)) ↔ p ∈ srP (ertL C n z) n n ∧ (p : Int) ∉ z := fun p => by
    rw [List.mem_filter, decide_eq_true_eq]
  have hall : All n z ((srP (ertL C n z) n n).filter (fun p : Nat => decide ((p : Int) ∉ z))) (srP (ertL C n z) n n) := ⟨srP_nodup _ _ _, hlt, fun p hp => by
    rw [hHm]
    constructor
    · intro h
      by_cases h3 : (p : Int) ∈ z
      · exact .inl h3
      · exact .inr ⟨h, h3⟩
    · rintro (h | h)
      · exact (hmem p hp).2 (.inl h)
      · exact h.1⟩
  have hHn := (srP_nodup (ertL C n z) n n).sublist (List.filter_sublist (p := fun p : Nat => decide ((p : Int) ∉ z)))
  have hlen := hall.length hok hHn fun p hp => ⟨hlt p ((hHm p).1 hp).1, ((hHm p).1 hp).2⟩
  exact ⟨_, ⟨hW, hn, hok, hrf, hf, hHn, by omega, fun p hp => by
    obtain ⟨h1, h2⟩ := (hHm p).1 hp
    refine ⟨hlt p h1, h2, vi n p, vi_one n p, ?_⟩
    exact ((hmem p (hlt p h1)).1 h1).resolve_left h2⟩, hall⟩
/-- Forney's amounts make the syndromes -/
theorem Reg.forney {W C : List UInt8} {n L : Nat} {z : List Int} {H P : List Nat} (h : Reg W C n L z H) (hP : All n z H P) :
    (∀ p ∈ P, evL (slopeL (ertL C n z)) (vi n p) ≠ 0) ∧ Adds W n (P.map fun p => (p, amt (ertL C n z) (evaL (synL W) C n z) n p)) := by
  have hl := h.all_len hP
  have hG : ∀ j, co (ertL C n z) j = co (Gf.locL (xsN n P)) j := fun j => (ert_co C n z j).trans (h.loc hP j)
  have hPl : P.length ≤ 32 := by have := h.few; omega
  have hsl : ∀ y, evL (slopeL (ertL C n z)) y = Gf.ev (P.length + 1) (Gf.pd (co (Gf.locL (xsN n P)))) y := fun y => by
    have e : ∀ i, co (slopeL (ertL C n z)) i = Gf.pd (co (Gf.locL (xsN n P))) i := fun i => by rw [co_slopeL, show co (ertL C n z) = co (Gf.locL (xsN n P)) from funext hG]
    have hz : ∀ i, P.length ≤ i → Gf.pd (co (Gf.locL (xsN n P))) i = 0 := Gf.pd_ge fun i hi => co_ge (by rw [Gf.locL_length, xsN_length]; omega)
    unfold evL
    rw [Gf.ev_congr (g := Gf.pd (co (Gf.locL (xsN n P)))) (fun i _ => e i)]
    have h1 : Gf.ev (max (slopeL (ertL C n z)).length (P.length + 1)) (Gf.pd (co (Gf.locL (xsN n P)))) y = Gf.ev (slopeL (ertL C n z)).length (Gf.pd (co (Gf.locL (xsN n P)))) y :=
      Gf.ev_more (by omega) fun i hi => by rw [← e i]; exact co_ge hi
    rw [← h1]
    exact Gf.ev_more (by omega) fun i hi => hz i (by omega)
  have hne : ∀ p ∈ P, evL (slopeL (ertL C n z)) (vi n p) ≠ 0 := fun p hp => by
    rw [hsl]
    exact Gf.slope_ne _ (xsN_nodup h.hn hP.nd hP.lt) _ (by rw [xsN_length]; omega) _ (List.mem_map.2 ⟨p, hp, rfl⟩) _ (vi_one n p)
  refine ⟨hne, ?_⟩
  obtain ⟨l, hlf, ha⟩ := h.adds hP
  have hll : l.length = P.length := by rw [← hlf, List.length_map]
  have hx : (l.map fun e => (e.2, Gf.al (n - 1 - e.1))).map (·.2) = xsN n P := by
    rw [List.map_map, xsN, ← hlf, List.map_map]
    rfl
  have hev : ∀ y, evL (evaL (synL W) C n z) y = Gf.ev (P.length + 1) (Gf.cv (co (Gf.locL (xsN n P))) (Gf.ls (l.map fun e => (e.2, Gf.al (n - 1 - e.1))))) y := fun y => by
    have hc : ∀ k, k < 32 → Gf.cv (co (Gf.locL (xsN n P))) (Gf.ls (l.map fun e => (e.2, Gf.al (n - 1 - e.1)))) k = Gf.cv (co (Gf.locL (xsN n P))) (co (synL W)) k := fun k hk => by
      unfold Gf.cv
      exact Gf.sm_congr fun i hi => by rw [ha (k - i) (by omega)]
    have hz : ∀ k, P.length ≤ k → Gf.cv (co (Gf.locL (xsN n P))) (Gf.ls (l.map fun e => (e.2, Gf.al (n - 1 - e.1)))) k = 0 := fun k hk => by
      rw [← hx]
      exact Gf.cv_loc _ k (by rw [List.length_map, hll]; exact hk)
    have e : ∀ k, co (evaL (synL W) C n z) k = Gf.cv (co (Gf.locL (xsN n P))) (Gf.ls (l.map fun e => (e.2, Gf.al (n - 1 - e.1)))) k := fun k => by
      rw [co_eva, show co (ertL C n z) = co (Gf.locL (xsN n P)) from funext hG]
      split
      · rename_i hk
        exact (hc k hk).symm
      · exact (hz k (by omega)).symm
    unfold evL
    rw [Gf.ev_congr (fun i _ => e i)]
    have h1 : Gf.ev (max (evaL (synL W) C n z).length (P.length + 1)) (Gf.cv (co (Gf.locL (xsN n P))) (Gf.ls (l.map fun e => (e.2, Gf.al (n - 1 - e.1))))) y = Gf.ev (evaL (synL W) C n z).length (Gf.cv (co (Gf.locL (xsN n P))) (Gf.ls (l.map fun e => (e.2, Gf.al (n - 1 - e.1))))) y :=
      Gf.ev_more (by omega) fun i hi => by rw [← e i]; exact co_ge hi
    rw [← h1]
    exact Gf.ev_more (by omega) fun i hi => hz i (by omega)
  have he : ∀ e ∈ l, amt (ertL C n z) (evaL (synL W) C n z) n e.1 = e.2 := fun e he => by
    have hp : e.1 ∈ P := by rw [← hlf]; exact List.mem_map.2 ⟨e, he, rfl⟩
    have h1 := Gf.forney (l.map fun e => (e.2, Gf.al (n - 1 - e.1))) (P.length + 1) (by rw [List.length_map, hll]; omega) (e.2, Gf.al (n - 1 - e.1)) (List.mem_map.2 ⟨e, he, rfl⟩) (vi n e.1) (vi_one n e.1)
    rw [hx, ← hev, ← hsl] at h1
    unfold amt
    exact gd_only (hne _ hp) h1.symm
  have hll2 : (P.map fun p => (p, amt (ertL C n z) (evaL (synL W) C n z) n p)) = l := by
    rw [← hlf, List.map_map]
    refine (List.map_congr_left fun e hm => ?_).trans (List.map_id l)
    show (e.1, amt _ _ n e.1) = e
    rw [he e hm]
  rw [hll2]
  exact ha
/-- how many others a word has that is mended to this one -/
theorem Chg.same {v W : List UInt8} {n : Nat} {z : List Int} {H H' : List Nat} (h : Chg v W n z H) (k : Chg v W n z H') : H.length = H'.length := by
  have h1 := nodup_sub H H' h.nd fun p hp => k.all p (h.mem p hp).1 (h.mem p hp).2.1 (h.mem p hp).2.2
  have h2 := nodup_sub H' H k.nd fun p hp => h.all p (k.mem p hp).1 (k.mem p hp).2.1 (k.mem p hp).2.2
  omega
/-- if a word can be mended its register has as many roots as it should -/
theorem Chg.roots {v W C : List UInt8} {n L : Nat} {z : List Int} {H : List Nat} (h : Chg v W n z H) (hrf : RF (forL (synL W) (Gf.locL (xsL n z))) C L) : L = H.length ∧ L < (tr C).length ∧ (srP (ertL C n z) n n).length = L + z.length := by
  obtain ⟨h1, _⟩ := h.reg hrf
  have hC := h.len hrf
  have hall : All n z H (srP (ertL C n z) n n) := ⟨srP_nodup _ _ _, fun p hp => (mem_srP.1 hp).1, fun p hp => by
    rw [mem_srP, h.root hrf p hp (vi n p) (vi_one n p)]
    exact ⟨fun h => h.2, fun h => ⟨hp, h⟩⟩⟩
  refine ⟨h1, by omega, ?_⟩
  rw [hall.length h.ok h.nd fun p hp => ⟨(h.mem p hp).1, (h.mem p hp).2.2⟩]
  omega
end Go.Proofs.YtgchfijeiggimaaDoor
