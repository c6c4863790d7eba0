/- A word mended, plain: the mended word is a code word; there is one at most; which places a register's roots tell. Mending by Forney's rule, plain: if the errata locator has as many roots among the places as its degree, the amounts make the syndromes. -/
import Derived.Test.YtomkkkbdipcjgaaDoorPy
import Derived.Test.YtomkkkbdipcjgaaDoorLoc
namespace Go.Proofs.YtomkkkbdipcjgaaDoor
set_option linter.unusedVariables false
namespace Gf
theorem cv_assoc (f g s : Nat → UInt8) (k : Nat) : cv (cv f g) s k = cv f (cv g s) k := by
  unfold cv
  have e1 : ∀ i, i < k + 1 → gm (sm (fun a => gm (f a) (g (i - a))) (i + 1)) (s (k - i)) = sm (fun a => gm (f a) (gm (ps a g i) (s (k - i)))) (k + 1) := fun i hi => by
    have h1 : sm (fun a => gm (f a) (g (i - a))) (i + 1) = sm (fun a => gm (f a) (ps a g i)) (k + 1) := by
      rw [sm_more (n := i + 1) (m := k + 1) (by omega) (fun a ha => by unfold ps; rw [if_neg (by omega), gm_zero])]
      exact sm_congr fun a ha => by unfold ps; rw [if_pos (by omega)]
    rw [h1, gm_comm, ← sm_gm]
    exact sm_congr fun a _ => by rw [gm_comm, gm_assoc]
  rw [sm_congr e1, sm_comm]
  refine sm_congr fun a ha => ?_
  rw [sm_gm]
  congr 1
  rw [show k + 1 = a + (k - a + 1) by omega, sm_add, sm_zero (fun i hi => by unfold ps; rw [if_neg (by omega), zero_gm]), UInt8.zero_xor]
  exact sm_congr fun i hi => by
    unfold ps
    rw [if_pos (by omega), Nat.add_sub_cancel_left, Nat.sub_sub]
theorem cv_mulL (a b : List UInt8) : co (mulL a b) = cv (co a) (co b) := funext fun k => co_mulL' a b k
theorem cv_comm (f g : Nat → UInt8) (k : Nat) : cv f g k = cv g f k := by
  unfold cv
  rw [sm_rev]
  exact sm_congr fun i hi => by rw [show k - (k - i) = i by omega, gm_comm]
theorem hv_put1 (x : UInt8) (w : List UInt8) (p : Nat) (hp : p < w.length) (y : UInt8) : hv x (w.set p (co w p ^^^ y)) = hv x w ^^^ gm y (px x (w.length - 1 - p)) := by
  induction w generalizing p with
  | nil => cases hp
  | cons c w ih =>
    cases p with
    | zero =>
      rw [List.set_cons_zero, hv_cons, hv_cons, show co (c :: w) 0 = c from rfl, xor_gm, List.length_cons]
      rw [show w.length + 1 - 1 - 0 = w.length by omega, UInt8.xor_assoc, UInt8.xor_assoc, UInt8.xor_comm (gm y _)]
    | succ p =>
      rw [List.set_cons_succ, hv_cons, hv_cons, show co (c :: w) (p + 1) = co w p by simp [co], List.length_set, ih p (by simpa using hp), List.length_cons]
      rw [show w.length + 1 - 1 - (p + 1) = w.length - 1 - p by omega, UInt8.xor_assoc]
end Gf
/-- a word with something added at places -/
def putW (W : List UInt8) (l : List (Nat × UInt8)) : List UInt8 := l.foldl (fun w e => w.set e.1 (co w e.1 ^^^ e.2)) W
theorem putW_cons (W : List UInt8) (e : Nat × UInt8) (l : List (Nat × UInt8)) : putW W (e :: l) = putW (W.set e.1 (co W e.1 ^^^ e.2)) l := rfl
theorem putW_snoc (W : List UInt8) (e : Nat × UInt8) (l : List (Nat × UInt8)) : putW W (l ++ [e]) = (putW W l).set e.1 (co (putW W l) e.1 ^^^ e.2) := by
  unfold putW
  rw [List.foldl_append]; rfl
@[simp] theorem putW_length (W : List UInt8) (l : List (Nat × UInt8)) : (putW W l).length = W.length := by
  induction l generalizing W with
  | nil => rfl
  | cons e l ih => rw [putW_cons, ih, List.length_set]
theorem putW_hv (n : Nat) (l : List (Nat × UInt8)) (W : List UInt8) (hW : W.length = n) (h : ∀ e ∈ l, e.1 < n) (j : Nat) : Gf.hv (Gf.al j) (putW W l) = Gf.hv (Gf.al j) W ^^^ Gf.ls (l.map fun e => (e.2, Gf.al (n - 1 - e.1))) j := by
  induction l generalizing W with
  | nil => exact UInt8.xor_zero.symm
  | cons e l ih =>
    rw [putW_cons, ih _ (by rw [List.length_set, hW]) (fun d hd => h d (by simp [hd])), Gf.hv_put1 _ _ _ (by rw [hW]; exact h e (by simp)), List.map_cons, Gf.ls_cons, hW, Gf.px_al, Gf.px_al, Nat.mul_comm, UInt8.xor_assoc]
theorem putW_out (l : List (Nat × UInt8)) (W : List UInt8) (p : Nat) (h : p ∉ l.map (·.1)) : co (putW W l) p = co W p := by
  induction l generalizing W with
  | nil => rfl
  | cons e l ih =>
    rw [List.map_cons, List.mem_cons, not_or] at h
    rw [putW_cons, ih _ h.2, co_set, if_neg (fun e2 => h.1 e2.1.symm)]
theorem putW_in (l : List (Nat × UInt8)) (W : List UInt8) (hn : (l.map (·.1)).Nodup) (e : Nat × UInt8) (he : e ∈ l) (hp : e.1 < W.length) : co (putW W l) e.1 = co W e.1 ^^^ e.2 := by
  induction l generalizing W with
  | nil => cases he
  | cons d l ih =>
    rw [List.map_cons, List.nodup_cons] at hn
    rw [putW_cons]
    rcases List.mem_cons.1 he with rfl | he
    · rw [putW_out l _ _ hn.1, co_set, if_pos ⟨rfl, hp⟩]
    · have hne : d.1 ≠ e.1 := fun h => hn.1 (by rw [h]; exact List.mem_map.2 ⟨e, he, rfl⟩)
      rw [ih _ hn.2 he (by rw [List.length_set]; exact hp), co_set, if_neg (fun e2 => hne e2.1)]
/-- the values of places -/
def xsN (n : Nat) (H : List Nat) : List UInt8 := H.map fun p => Gf.al (n - 1 - p)
@[simp] theorem xsN_length (n : Nat) (H : List Nat) : (xsN n H).length = H.length := by simp [xsN]
theorem xsN_nodup {n : Nat} {H : List Nat} (hn : n ≤ 255) (h : H.Nodup) (hp : ∀ p ∈ H, p < n) : (xsN n H).Nodup := by
  induction H with
  | nil => exact List.nodup_nil
  | cons p H ih =>
    have hn2 := List.nodup_cons.1 h
    unfold xsN
    rw [List.map_cons, List.nodup_cons]
    refine ⟨fun hm => ?_, ih hn2.2 fun q hq => hp q (by simp [hq])⟩
    obtain ⟨q, hq, he⟩ := List.mem_map.1 hm
    have h1 := hp p (by simp)
    have h2 := hp q (by simp [hq])
    have he := (Gf.al_inj _ _).1 he
    obtain rfl : q = p := by omega
    exact hn2.1 hq
theorem al_inv (m : Nat) : ∃ y, Gf.gm (Gf.al m) y = 1 := by
  refine ⟨Gf.gd 1 (Gf.al m), ?_⟩
  rw [Gf.gm_comm]
  exact Gf.gd_gm _ _ (Gf.al_ne m)
/-- the places of a list of the erased ones and others -/
structure All (n : Nat) (z : List Int) (H P : List Nat) : Prop where
  nd : P.Nodup
  lt : ∀ p ∈ P, p < n
  mem : ∀ p, p < n → (p ∈ P ↔ ((p : Int) ∈ z ∨ p ∈ H))
/-- a register and its roots -/
structure Reg (W C : List UInt8) (n L : Nat) (z : List Int) (H : List Nat) : Prop where
  lw : W.length = n
  hn : n ≤ 255
  ok : EOk n z
  rf : RF (forL (synL W) (Gf.locL (xsL n z))) C L
  few : 2 * L + z.length ≤ 32
  nd : H.Nodup
  len : H.length = L
  mem : ∀ p ∈ H, p < n ∧ (p : Int) ∉ z ∧ ∃ y, Gf.gm (Gf.al (n - 1 - p)) y = 1 ∧ evL C y = 0
theorem ints_mem {n : Nat} {z : List Int} (hok : EOk n z) {q : Int} (hq : q ∈ z) : 0 ≤ q ∧ q < n := by
  obtain ⟨k, hk, rfl⟩ := List.getElem_of_mem hq
  have := hok.1 k hk
  unfold ci at this
  rw [List.getD_eq_getElem?_getD, List.getElem?_eq_getElem hk] at this
  exact this
theorem ints_nodup {n : Nat} {z : List Int} (hok : EOk n z) : z.Nodup := by
  rw [List.nodup_iff_pairwise_ne, List.pairwise_iff_getElem]
  intro i j hi hj hij
  have := hok.2.1 j i hij hj
  unfold ci at this
  rw [List.getD_eq_getElem?_getD, List.getElem?_eq_getElem hj, List.getD_eq_getElem?_getD, List.getElem?_eq_getElem hi] at this
  exact fun e => this e.symm
/-- how many there are -/
theorem All.length {n : Nat} {z : List Int} {H P : List Nat} (h : All n z H P) (hok : EOk n z) (hH : H.Nodup) (hm : ∀ p ∈ H, p < n ∧ (p : Int) ∉ z) : P.length = z.length + H.length := by
  have hzn : (z.map Int.toNat).Nodup := by
    have h1 := ints_nodup hok
    rw [List.nodup_iff_pairwise_ne, List.pairwise_map]
    rw [List.nodup_iff_pairwise_ne] at h1
    refine List.Pairwise.imp_of_mem (fun {a b} ha hb hab => ?_) h1
    have := ints_mem hok ha
    have := ints_mem hok hb
    omega
  have hall : (z.map Int.toNat ++ H).Nodup := List.nodup_append.2 ⟨hzn, hH, fun a ha b hb e => by
    subst e
    obtain ⟨q, hq, rfl⟩ := List.mem_map.1 ha
    have := ints_mem hok hq
    exact (hm _ hb).2 (by rw [Int.toNat_of_nonneg this.1]; exact hq)⟩
  have h1 := nodup_sub P (z.map Int.toNat ++ H) h.nd fun p hp => by
    rcases (h.mem p (h.lt p hp)).1 hp with h2 | h2
    · exact List.mem_append.2 (.inl (List.mem_map.2 ⟨p, h2, by simp⟩))
    · exact List.mem_append.2 (.inr h2)
  have h2 := nodup_sub (z.map Int.toNat ++ H) P hall fun p hp => by
    rcases List.mem_append.1 hp with h2 | h2
    · obtain ⟨q, hq, rfl⟩ := List.mem_map.1 h2
      have := ints_mem hok hq
      exact (h.mem q.toNat (by omega)).2 (.inl (by rw [Int.toNat_of_nonneg this.1]; exact hq))
    · exact (h.mem p (hm p h2).1).2 (.inr h2)
  simp at h1 h2
  omega
theorem Reg.all_len {W C : List UInt8} {n L : Nat} {z : List Int} {H P : List Nat} (h : Reg W C n L z H) (hP : All n z H P) : P.length = z.length + L := by
  rw [hP.length h.ok h.nd fun p hp => ⟨(h.mem p hp).1, (h.mem p hp).2.1⟩, h.len]
/-- the errata locator is the product over all these places -/
theorem Reg.loc {W C : List UInt8} {n L : Nat} {z : List Int} {H P : List Nat} (h : Reg W C n L z H) (hP : All n z H P) (j : Nat) : co (mulL C (Gf.locL (xsL n z))) j = co (Gf.locL (xsN n P)) j := by
  have hl := h.all_len hP
  refine Gf.loc_of _ _ (xsN_nodup h.hn hP.nd hP.lt) ?_ (fun i hi => ?_) (fun x hx => ?_) j
  · rw [co_mulL']
    show (0 : UInt8) ^^^ Gf.gm (co C 0) (co (Gf.locL (xsL n z)) 0) = 1
    rw [h.rf.run.one, Gf.locL_one, Gf.one_gm, UInt8.zero_xor]
  · rw [xsN_length, hl] at hi
    rw [co_mulL']
    refine Gf.sm_zero fun a ha => ?_
    by_cases h1 : a ≤ L
    · rw [show co (Gf.locL (xsL n z)) (i - a) = 0 from co_ge (by rw [loc_len]; omega), Gf.gm_zero]
    · rw [show co C a = 0 from co_ge (by have := h.rf.len; omega), Gf.zero_gm]
  · obtain ⟨p, hp, rfl⟩ := List.mem_map.1 hx
    have hpn := hP.lt p hp
    rcases (hP.mem p hpn).1 hp with h1 | h1
    · obtain ⟨y, hy⟩ := al_inv (n - 1 - p)
      refine ⟨y, hy, ?_⟩
      rw [evL_mul, (Gf.loc_zero _ _ _ (Gf.al_ne _) hy).2 ((mem_xsL h.hn hpn h.ok.1).2 h1), Gf.gm_zero]
    · obtain ⟨_, _, y, hy, he⟩ := h.mem p h1
      refine ⟨y, hy, ?_⟩
      rw [evL_mul, he, Gf.zero_gm]
/-- the syndromes run by it -/
theorem RF.run_all {W C : List UInt8} {n L : Nat} {z : List Int} (hrf : RF (forL (synL W) (Gf.locL (xsL n z))) C L) (hle : z.length ≤ 32) (k : Nat) (h1 : z.length + L ≤ k) (h2 : k < 32) : Gf.cv (co (mulL C (Gf.locL (xsL n z)))) (co (synL W)) k = 0 := by
  have hfl := for_len (synL W) n z
  rw [Gf.cv_mulL, Gf.cv_assoc]
  have hr := hrf.run.run (k - z.length) (by omega) (by rw [hfl]; omega)
  rw [← hr]
  unfold Gf.dis
  show Gf.sm _ (k + 1) = _
  rw [Gf.sm_more (n := L + 1) (m := k + 1) (by omega) (fun i hi => by rw [show co C i = 0 from co_ge (by have := hrf.len; omega), Gf.zero_gm])]
  refine Gf.sm_congr fun i hi => ?_
  rw [co_for _ _ _ (by rw [hfl]; omega), loc_tr, loc_len, Nat.add_sub_cancel, Gf.cv_mulL, Gf.cv_comm, show z.length + (k - z.length - i) = k - i by omega]
theorem Reg.run {W C : List UInt8} {n L : Nat} {z : List Int} {H P : List Nat} (h : Reg W C n L z H) (hP : All n z H P) : Gf.Run (co (synL W)) 32 (co (Gf.locL (xsN n P))) (xsN n P).length := by
  have hl := h.all_len hP
  refine ⟨Gf.locL_one _, fun k h1 h2 => ?_⟩
  rw [xsN_length, hl] at h1 ⊢
  rw [← h.rf.run_all h.ok.2.2 k h1 h2, show co (mulL C (Gf.locL (xsL n z))) = co (Gf.locL (xsN n P)) from funext (h.loc hP)]
  unfold Gf.dis Gf.cv
  exact (Gf.sm_more (by omega) fun i hi => by rw [show co (Gf.locL (xsN n P)) i = 0 from co_ge (by rw [Gf.locL_length, xsN_length, hl]; omega), Gf.zero_gm]).symm
/-- something to add at these places that makes the syndromes -/
def Adds (W : List UInt8) (n : Nat) (l : List (Nat × UInt8)) : Prop := ∀ j, j < 32 → Gf.ls (l.map fun e => (e.2, Gf.al (n - 1 - e.1))) j = co (synL W) j
theorem zip_back (n : Nat) (P : List Nat) (l : List (UInt8 × UInt8)) (h : l.map (·.2) = xsN n P) : ∃ l2 : List (Nat × UInt8), l2.map (·.1) = P ∧ l2.map (fun e => (e.2, Gf.al (n - 1 - e.1))) = l := by
  induction P generalizing l with
  | nil =>
    have : l = [] := by
      have := congrArg List.length h
      simpa using this
    exact ⟨[], rfl, by rw [this]; rfl⟩
  | cons p P ih =>
    cases l with
    | nil => cases h
    | cons e l =>
      simp only [xsN, List.map_cons, List.cons.injEq] at h
      obtain ⟨l2, h1, h2⟩ := ih l h.2
      refine ⟨(p, e.1) :: l2, by rw [List.map_cons, h1], ?_⟩
      rw [List.map_cons, h2, ← h.1]
theorem Reg.adds {W C : List UInt8} {n L : Nat} {z : List Int} {H P : List Nat} (h : Reg W C n L z H) (hP : All n z H P) : ∃ l : List (Nat × UInt8), l.map (·.1) = P ∧ Adds W n l := by
  obtain ⟨l, hl, hs⟩ := Gf.sums_of _ (xsN_nodup h.hn hP.nd hP.lt) _ 32 (h.run hP)
  obtain ⟨l2, h1, h2⟩ := zip_back n P l hl
  exact ⟨l2, h1, fun j hj => by rw [h2, hs j hj]⟩
/-- then the mended word is a code word, that differs at just these others -/
theorem Reg.chg {W C : List UInt8} {n L : Nat} {z : List Int} {H P : List Nat} (h : Reg W C n L z H) (hP : All n z H P) (l : List (Nat × UInt8)) (hl : l.map (·.1) = P) (ha : Adds W n l) : Chg (putW W l) W n z H := by
  have hlt : ∀ e ∈ l, e.1 < n := fun e he => hP.lt _ (by rw [← hl]; exact List.mem_map.2 ⟨e, he, rfl⟩)
  have hcode : IsCode (putW W l) := fun j hj => by
    rw [putW_hv n l W h.lw hlt, ha j hj, synL, co_tab _ _ _ hj, UInt8.xor_self]
  have hall : ∀ p, p < n → co W p ≠ co (putW W l) p → (p : Int) ∉ z → p ∈ H := fun p hp hne hz => by
    have hm : p ∈ P := Classical.byContradiction fun hm => hne (putW_out l W p (by rw [hl]; exact hm)).symm
    rcases (hP.mem p hp).1 hm with h1 | h1
    · exact absurd h1 hz
    · exact h1
  have h1 : Chg (putW W l) W n z (H.filter fun p => decide (co W p ≠ co (putW W l) p)) := by
    refine ⟨hcode, by rw [putW_length, h.lw], h.lw, h.hn, h.ok, h.nd.sublist List.filter_sublist, fun p hp => ?_, fun p hp hne hz => ?_, ?_⟩
    · obtain ⟨h2, h3⟩ := List.mem_filter.1 hp
      exact ⟨(h.mem p h2).1, by simpa using h3, (h.mem p h2).2.1⟩
    · exact List.mem_filter.2 ⟨hall p hp hne hz, by simpa using hne⟩
    · have := List.length_filter_le (fun p => decide (co W p ≠ co (putW W l) p)) H
      have := h.few
      have := h.len
      omega
  have h2 := (h1.reg h.rf).1
  have h3 : (H.filter fun p => decide (co W p ≠ co (putW W l) p)) = H := by
    refine List.filter_eq_self.2 fun a ha => ?_
    have := (List.length_filter_eq_length_iff (l := H) (p := fun p => decide (co W p ≠ co (putW W l) p))).1 (by rw [← h2, h.len])
    exact this a ha
  rw [h3] at h1
  exact h1
/-- few places that differ -/
theorem diffs_le {a b : List UInt8} {n : Nat} (ha : a.length = n) (hb : b.length = n) (hn : n ≤ 255) (K : List Nat) (h : ∀ p, p < n → co a p ≠ co b p → p ∈ K) : diffs a b ≤ K.length := by
  have hd : (Gf.sumW a b).length = n := by simp [Gf.sumW, ha, hb]
  have h1 := Gf.oth_le [] (Gf.sumW a b) (by rw [hd]; exact hn) K fun p hp hc _ => by
    rw [hd] at hp
    exact h p hp fun e => (sum_ne (by rw [ha, hb]) p).1 hc e.symm
  unfold Gf.oth at h1
  have e : ((Gf.pr (Gf.sumW a b)).filter fun q => q.1 != 0 && !(([] : List UInt8).contains q.2)) = (Gf.pr (Gf.sumW a b)).filter (fun q => q.1 != 0) := by
    congr 1
    funext q
    simp
  rw [e, Gf.pr_weight] at h1
  exact h1
theorem Chg.uniq {v v' W : List UInt8} {n : Nat} {z : List Int} {H H' : List Nat} (h : Chg v W n z H) (k : Chg v' W n z H') : v = v' := by
  refine h.code.apart k.code (by rw [h.lv, k.lv]) (by rw [h.lv]; exact h.hn) ?_
  have := diffs_le h.lv k.lv h.hn (z.map Int.toNat ++ (H ++ H')) fun p hp hne => by
    by_cases hz : (p : Int) ∈ z
    · exact List.mem_append.2 (.inl (List.mem_map.2 ⟨p, hz, by simp⟩))
    · by_cases h1 : co W p = co v p
      · exact List.mem_append.2 (.inr (List.mem_append.2 (.inr (k.all p hp (fun e => hne (by rw [← h1, e])) hz))))
      · exact List.mem_append.2 (.inr (List.mem_append.2 (.inl (h.all p hp h1 hz))))
  have h1 := h.few
  have h2 := k.few
  simp at this
  omega
/-- the others are the register's roots -/
theorem Chg.rootC {v W C : List UInt8} {n L : Nat} {z : List Int} {H : List Nat} (h : Chg v W n z H) (hrf : RF (forL (synL W) (Gf.locL (xsL n z))) C L) (p : Nat) (hp : p < n) (y : UInt8) (hy : Gf.gm (Gf.al (n - 1 - p)) y = 1) (hz : (p : Int) ∉ z) : evL C y = 0 ↔ p ∈ H := by
  obtain ⟨h1, h2⟩ := h.reg hrf
  have hvw : v.length = W.length := by rw [h.lv, h.lw]
  have hdl : (Gf.sumW v W).length = n := by simp [Gf.sumW, h.lv, h.lw]
  rw [evL_congr h2 y, Gf.loc_zero _ _ _ (Gf.al_ne _) hy]
  have := Gf.mem_oth (xsL n z) (Gf.sumW v W) (by rw [hdl]; exact h.hn) p (by rw [hdl]; exact hp)
  rw [hdl] at this
  unfold othY
  rw [this, sum_ne hvw, mem_xsL h.hn hp h.ok.1]
  exact ⟨fun ⟨h3, h4⟩ => h.all p hp h3 h4, fun h3 => ⟨(h.mem p h3).2.1, (h.mem p h3).2.2⟩⟩
/-- so a list of them has their number -/
theorem Chg.count {v W C : List UInt8} {n L : Nat} {z : List Int} {H F : List Nat} (h : Chg v W n z H) (hrf : RF (forL (synL W) (Gf.locL (xsL n z))) C L) (hF : F.Nodup)
    (hm : ∀ p, p ∈ F ↔ (p < n ∧ (p : Int) ∉ z ∧ ∃ y, Gf.gm (Gf.al (n - 1 - p)) y = 1 ∧ evL C y = 0)) : F.length = L := by
  rw [(h.reg hrf).1]
  have h1 := nodup_sub F H hF fun p hp => by
    obtain ⟨h2, h3, y, hy, he⟩ := (hm p).1 hp
    exact (h.rootC hrf p h2 y hy h3).1 he
  have h2 := nodup_sub H F h.nd fun p hp => by
    have h3 := h.mem p hp
    obtain ⟨y, hy⟩ := al_inv (n - 1 - p)
    exact (hm p).2 ⟨h3.1, h3.2.2, y, hy, (h.rootC hrf p h3.1 y hy h3.2.2).2 hp⟩
  omega
end Go.Proofs.YtomkkkbdipcjgaaDoor
namespace Go.Proofs.YtomkkkbdipcjgaaDoor
set_option linter.unusedVariables false
theorem inv_only {a y : UInt8} (h : Gf.gm a y = 1) : y = Gf.gd 1 a := by
  have ha : a ≠ 0 := fun e => by rw [e, Gf.zero_gm] at h; exact absurd h (by decide)
  have h2 := Gf.gd_gm 1 a ha
  have h3 : Gf.gm a (y ^^^ Gf.gd 1 a) = 0 := by rw [Gf.gm_xor, h, Gf.gm_comm a, h2, UInt8.xor_self]
  exact Gf.xor_eq_zero _ _ ((Gf.gm_eq_zero a _ ha).1 h3)
/-- a quotient is the only one -/
theorem gd_only {a b c : UInt8} (hb : b ≠ 0) (h : Gf.gm c b = a) : Gf.gd a b = c := by
  have h2 := Gf.gd_gm a b hb
  have h3 : Gf.gm b (Gf.gd a b ^^^ c) = 0 := by rw [Gf.gm_xor, Gf.gm_comm b, h2, Gf.gm_comm b, h, UInt8.xor_self]
  exact Gf.xor_eq_zero _ _ ((Gf.gm_eq_zero b _ hb).1 h3)
/-- the inverse of a place's value -/
def vi (n p : Nat) : UInt8 := Gf.gd 1 (Gf.al (n - 1 - p))
theorem vi_one (n p : Nat) : Gf.gm (Gf.al (n - 1 - p)) (vi n p) = 1 := by
  obtain ⟨y, hy⟩ := al_inv (n - 1 - p)
  rw [vi, ← inv_only hy]
  exact hy
/-- the places of a polynomial's roots -/
def srP (P : List UInt8) (n k : Nat) : List Nat := (List.range k).filter fun p => decide (evL P (vi n p) = 0)
theorem srP_nodup (P : List UInt8) (n k : Nat) : (srP P n k).Nodup := List.nodup_range.sublist List.filter_sublist
theorem mem_srP {P : List UInt8} {n k p : Nat} : p ∈ srP P n k ↔ p < k ∧ evL P (vi n p) = 0 := by
  unfold srP
  rw [List.mem_filter, List.mem_range, decide_eq_true_eq]
theorem srP_no {P : List UInt8} {n k : Nat} (h : ¬ evL P (vi n k) = 0) : srP P n (k + 1) = srP P n k := by
  unfold srP
  rw [List.range_succ, List.filter_append]
  simp [h]
theorem srP_yes {P : List UInt8} {n k : Nat} (h : evL P (vi n k) = 0) : srP P n (k + 1) = srP P n k ++ [k] := by
  unfold srP
  rw [List.range_succ, List.filter_append]
  simp [h]
theorem srP_le (P : List UInt8) (n k : Nat) : (srP P n k).length ≤ k := by
  have := List.length_filter_le (fun p => decide (evL P (vi n p) = 0)) (List.range k)
  rwa [List.length_range] at this
def srI (P : List UInt8) (n k : Nat) : List Int := (srP P n k).map fun p : Nat => (p : Int)
theorem srI_length (P : List UInt8) (n k : Nat) : (srI P n k).length = (srP P n k).length := by simp [srI]
/-- what is added at a place -/
def amt (G O : List UInt8) (n p : Nat) : UInt8 := Gf.gd (Gf.gm (Gf.al (n - 1 - p)) (evL O (vi n p))) (evL (slopeL G) (vi n p))
theorem lowN32 (m : Nat) : lowN 32 m = if m < 32 then m else 32 := by
  unfold lowN
  rw [if_neg (by decide)]
  split <;> split <;> first | rfl | omega
theorem low_co (Q : List UInt8) (k : Nat) : co (tr (Q.take (lowN 32 Q.length))) k = if k < 32 then co Q k else 0 := by
  rw [co_tr, co_take, lowN32]
  by_cases h2 : Q.length < 32
  · rw [if_pos h2]
    by_cases h3 : k < Q.length
    · rw [if_pos h3, if_pos (by omega)]
    · rw [if_neg h3, co_ge (by omega : Q.length ≤ k)]
      by_cases h4 : k < 32
      · rw [if_pos h4]
      · rw [if_neg h4]
  · rw [if_neg h2]
theorem co_eva (s C : List UInt8) (n : Nat) (z : List Int) (k : Nat) : co (evaL s C n z) k = if k < 32 then Gf.cv (co (ertL C n z)) (co s) k else 0 := by
  unfold evaL
  generalize ertL C n z = G
  rw [low_co, co_tr, mulL_congr (a := tr s) (b := s) (c := G) (d := G) (co_tr s) (fun _ => rfl) k, Gf.cv_mulL, Gf.cv_comm]
/-- the errata locator's length -/
theorem ert_len {C : List UInt8} {n L : Nat} {z : List Int} (h1 : C.length ≤ L + 1) (h2 : L < (tr C).length) : (ertL C n z).length = L + z.length + 1 := by
  unfold ertL
  have h3 := tr_le C
  have h4 : (tr C).length = L + 1 := by omega
  have h5 : co C L ≠ 0 := by
    have := tl_top C C.length (by rw [← tr_length]; omega)
    rwa [← tr_length, h4, Nat.add_sub_cancel] at this
  have h6 : co (Gf.locL (xsL n z)) z.length ≠ 0 := by
    have := Gf.loc_top (xsL n z) (fun y hy => by
      obtain ⟨q, _, rfl⟩ := List.mem_map.1 hy
      exact Gf.al_ne _)
    rwa [show (xsL n z).length = z.length by simp [xsL]] at this
  have hl : (mulL (tr C) (Gf.locL (xsL n z))).length = L + 1 + (z.length + 1) := by unfold mulL; rw [tab_length, h4, loc_len]
  rw [tr_length, hl]
  refine tl_unique _ _ _ (by omega) (fun i hi _ => ?_) (fun _ => ?_)
  · rw [co_mulL']
    refine Gf.sm_zero fun a ha => ?_
    by_cases h7 : a ≤ L
    · rw [show co (Gf.locL (xsL n z)) (i - a) = 0 from co_ge (by rw [loc_len]; omega), Gf.gm_zero]
    · rw [show co (tr C) a = 0 from co_ge (by omega), Gf.zero_gm]
  · rw [Nat.add_sub_cancel, co_mulL']
    have e : Gf.sm (fun i => Gf.gm (co (tr C) i) (co (Gf.locL (xsL n z)) (L + z.length - i))) (L + z.length + 1) = Gf.gm (co C L) (co (Gf.locL (xsL n z)) z.length) := by
      rw [Gf.sm_more (n := L + 1) (by omega) (fun i hi => by rw [show co (tr C) i = 0 from co_ge (by omega), Gf.zero_gm])]
      show Gf.sm _ L ^^^ Gf.gm (co (tr C) L) (co (Gf.locL (xsL n z)) (L + z.length - L)) = _
      rw [Gf.sm_zero fun i hi => by rw [show co (Gf.locL (xsL n z)) (L + z.length - i) = 0 from co_ge (by rw [loc_len]; omega), Gf.gm_zero], UInt8.zero_xor, co_tr, Nat.add_sub_cancel_left]
    rw [e]
    exact fun e => h6 ((Gf.gm_eq_zero _ _ h5).1 e)
theorem ert_co (C : List UInt8) (n : Nat) (z : List Int) (k : Nat) : co (ertL C n z) k = co (mulL C (Gf.locL (xsL n z))) k := by
  unfold ertL
  rw [co_tr]
  exact mulL_congr (a := tr C) (b := C) (c := Gf.locL (xsL n z)) (d := Gf.locL (xsL n z)) (co_tr C) (fun _ => rfl) k
theorem ert_ev (C : List UInt8) (n : Nat) (z : List Int) (y : UInt8) : evL (ertL C n z) y = Gf.gm (evL C y) (evL (Gf.locL (xsL n z)) y) := by
  rw [evL_congr (ert_co C n z), evL_mul]
/-- roots among the places, as many as the degree: then there is a register with just so many roots -/
theorem roots_reg {W C : List UInt8} {n L : Nat} {z : List Int} (hrf : RF (forL (synL W) (Gf.locL (xsL n z))) C L) (hW : W.length = n) (hn : n ≤ 255) (hok : EOk n z) (hf : 2 * L + z.length ≤ 32) (hC : L < (tr C).length)
    (hS : (srP (ertL C n z) n n).length = L + z.length) : ∃ H, Reg W C n L z H ∧ All n z H (srP (ertL C n z) n n) := by
  have hmem : ∀ p, p < n → (p ∈ srP (ertL C n z) n n ↔ ((p : Int) ∈ z ∨ evL C (vi n p) = 0)) := fun p hp => by
    rw [mem_srP, ert_ev]
    have h1 := Gf.loc_zero (xsL n z) (Gf.al (n - 1 - p)) (vi n p) (Gf.al_ne _) (vi_one n p)
    rw [mem_xsL hn hp hok.1] at h1
    constructor
    · rintro ⟨_, h2⟩
      by_cases h3 : (p : Int) ∈ z
      · exact .inl h3
      · refine .inr ?_
        rw [Gf.gm_comm] at h2
        exact (Gf.gm_eq_zero _ _ (fun e => h3 (h1.1 e))).1 h2
    · rintro (h2 | h2)
      · exact ⟨hp, by rw [h1.2 h2, Gf.gm_zero]⟩
      · exact ⟨hp, by rw [h2, Gf.zero_gm]⟩
  have hlt : ∀ p ∈ srP (ertL C n z) n n, p < n := fun p hp => (mem_srP.1 hp).1
  have hHm : ∀ p, p ∈ (srP (ertL C n z) n n).filter (fun p : Nat => decide ((p : Int) ∉ z)) ↔ p ∈ srP (ertL C n z) n n ∧ (p : Int) ∉ z := fun p => by
    rw [List.mem_filter, decide_eq_true_eq]
  have hall : All n z ((srP (ertL C n z) n n).filter (fun p : Nat => decide ((p : Int) ∉ z))) (srP (ertL C n z) n n) := ⟨srP_nodup _ _ _, hlt, fun p hp => by
    rw [hHm]
    constructor
    · intro h
      by_cases h3 : (p : Int) ∈ z
      · exact .inl h3
      · exact .inr ⟨h, h3⟩
    · rintro (h | h)
      · exact (hmem p hp).2 (.inl h)
      · exact h.1⟩
  have hHn := (srP_nodup (ertL C n z) n n).sublist (List.filter_sublist (p := fun p : Nat => decide ((p : Int) ∉ z)))
  have hlen := hall.length hok hHn fun p hp => ⟨hlt p ((hHm p).1 hp).1, ((hHm p).1 hp).2⟩
  exact ⟨_, ⟨hW, hn, hok, hrf, hf, hHn, by omega, fun p hp => by
    obtain ⟨h1, h2⟩ := (hHm p).1 hp
    refine ⟨hlt p h1, h2, vi n p, vi_one n p, ?_⟩
    exact ((hmem p (hlt p h1)).1 h1).resolve_left h2⟩, hall⟩
/-- Forney's amounts make the syndromes -/
theorem Reg.forney {W C : List UInt8} {n L : Nat} {z : List Int} {H P : List Nat} (h : Reg W C n L z H) (hP : All n z H P) :
    (∀ p ∈ P, evL (slopeL (ertL C n z)) (vi n p) ≠ 0) ∧ Adds W n (P.map fun p => (p, amt (ertL C n z) (evaL (synL W) C n z) n p)) := by
  have hl := h.all_len hP
  have hG : ∀ j, co (ertL C n z) j = co (Gf.locL (xsN n P)) j := fun j => (ert_co C n z j).trans (h.loc hP j)
  have hPl : P.length ≤ 32 := by have := h.few; omega
  have hsl : ∀ y, evL (slopeL (ertL C n z)) y = Gf.ev (P.length + 1) (Gf.pd (co (Gf.locL (xsN n P)))) y := fun y => by
    have e : ∀ i, co (slopeL (ertL C n z)) i = Gf.pd (co (Gf.locL (xsN n P))) i := fun i => by rw [co_slopeL, show co (ertL C n z) = co (Gf.locL (xsN n P)) from funext hG]
    have hz : ∀ i, P.length ≤ i → Gf.pd (co (Gf.locL (xsN n P))) i = 0 := Gf.pd_ge fun i hi => co_ge (by rw [Gf.locL_length, xsN_length]; omega)
    unfold evL
    rw [Gf.ev_congr (g := Gf.pd (co (Gf.locL (xsN n P)))) (fun i _ => e i)]
    have h1 : Gf.ev (max (slopeL (ertL C n z)).length (P.length + 1)) (Gf.pd (co (Gf.locL (xsN n P)))) y = Gf.ev (slopeL (ertL C n z)).length (Gf.pd (co (Gf.locL (xsN n P)))) y :=
      Gf.ev_more (by omega) fun i hi => by rw [← e i]; exact co_ge hi
    rw [← h1]
    exact Gf.ev_more (by omega) fun i hi => hz i (by omega)
  have hne : ∀ p ∈ P, evL (slopeL (ertL C n z)) (vi n p) ≠ 0 := fun p hp => by
    rw [hsl]
    exact Gf.slope_ne _ (xsN_nodup h.hn hP.nd hP.lt) _ (by rw [xsN_length]; omega) _ (List.mem_map.2 ⟨p, hp, rfl⟩) _ (vi_one n p)
  refine ⟨hne, ?_⟩
  obtain ⟨l, hlf, ha⟩ := h.adds hP
  have hll : l.length = P.length := by rw [← hlf, List.length_map]
  have hx : (l.map fun e => (e.2, Gf.al (n - 1 - e.1))).map (·.2) = xsN n P := by
    rw [List.map_map, xsN, ← hlf, List.map_map]
    rfl
  have hev : ∀ y, evL (evaL (synL W) C n z) y = Gf.ev (P.length + 1) (Gf.cv (co (Gf.locL (xsN n P))) (Gf.ls (l.map fun e => (e.2, Gf.al (n - 1 - e.1))))) y := fun y => by
    have hc : ∀ k, k < 32 → Gf.cv (co (Gf.locL (xsN n P))) (Gf.ls (l.map fun e => (e.2, Gf.al (n - 1 - e.1)))) k = Gf.cv (co (Gf.locL (xsN n P))) (co (synL W)) k := fun k hk => by
      unfold Gf.cv
      exact Gf.sm_congr fun i hi => by rw [ha (k - i) (by omega)]
    have hz : ∀ k, P.length ≤ k → Gf.cv (co (Gf.locL (xsN n P))) (Gf.ls (l.map fun e => (e.2, Gf.al (n - 1 - e.1)))) k = 0 := fun k hk => by
      rw [← hx]
      exact Gf.cv_loc _ k (by rw [List.length_map, hll]; exact hk)
    have e : ∀ k, co (evaL (synL W) C n z) k = Gf.cv (co (Gf.locL (xsN n P))) (Gf.ls (l.map fun e => (e.2, Gf.al (n - 1 - e.1)))) k := fun k => by
      rw [co_eva, show co (ertL C n z) = co (Gf.locL (xsN n P)) from funext hG]
      split
      · rename_i hk
        exact (hc k hk).symm
      · exact (hz k (by omega)).symm
    unfold evL
    rw [Gf.ev_congr (fun i _ => e i)]
    have h1 : Gf.ev (max (evaL (synL W) C n z).length (P.length + 1)) (Gf.cv (co (Gf.locL (xsN n P))) (Gf.ls (l.map fun e => (e.2, Gf.al (n - 1 - e.1))))) y = Gf.ev (evaL (synL W) C n z).length (Gf.cv (co (Gf.locL (xsN n P))) (Gf.ls (l.map fun e => (e.2, Gf.al (n - 1 - e.1))))) y :=
      Gf.ev_more (by omega) fun i hi => by rw [← e i]; exact co_ge hi
    rw [← h1]
    exact Gf.ev_more (by omega) fun i hi => hz i (by omega)
  have he : ∀ e ∈ l, amt (ertL C n z) (evaL (synL W) C n z) n e.1 = e.2 := fun e he => by
    have hp : e.1 ∈ P := by rw [← hlf]; exact List.mem_map.2 ⟨e, he, rfl⟩
    have h1 := Gf.forney (l.map fun e => (e.2, Gf.al (n - 1 - e.1))) (P.length + 1) (by rw [List.length_map, hll]; omega) (e.2, Gf.al (n - 1 - e.1)) (List.mem_map.2 ⟨e, he, rfl⟩) (vi n e.1) (vi_one n e.1)
    rw [hx, ← hev, ← hsl] at h1
    unfold amt
    exact gd_only (hne _ hp) h1.symm
  have hll2 : (P.map fun p => (p, amt (ertL C n z) (evaL (synL W) C n z) n p)) = l := by
    rw [← hlf, List.map_map]
    refine (List.map_congr_left fun e hm => ?_).trans (List.map_id l)
    show (e.1, amt _ _ n e.1) = e
    rw [he e hm]
  rw [hll2]
  exact ha
/-- how many others a word has that is mended to this one -/
theorem Chg.same {v W : List UInt8} {n : Nat} {z : List Int} {H H' : List Nat} (h : Chg v W n z H) (k : Chg v W n z H') : H.length = H'.length := by
  have h1 := nodup_sub H H' h.nd fun p hp => k.all p (h.mem p hp).1 (h.mem p hp).2.1 (h.mem p hp).2.2
  have h2 := nodup_sub H' H k.nd fun p hp => h.all p (k.mem p hp).1 (k.mem p hp).2.1 (k.mem p hp).2.2
  omega
/-- if a word can be mended its register has as many roots as it should -/
theorem Chg.roots {v W C : List UInt8} {n L : Nat} {z : List Int} {H : List Nat} (h : Chg v W n z H) (hrf : RF (forL (synL W) (Gf.locL (xsL n z))) C L) : L = H.length ∧ L < (tr C).length ∧ (srP (ertL C n z) n n).length = L + z.length := by
  obtain ⟨h1, _⟩ := h.reg hrf
  have hC := h.len hrf
  have hall : All n z H (srP (ertL C n z) n n) := ⟨srP_nodup _ _ _, fun p hp => (mem_srP.1 hp).1, fun p hp => by
    rw [mem_srP, h.root hrf p hp (vi n p) (vi_one n p)]
    exact ⟨fun h => h.2, fun h => ⟨hp, h⟩⟩⟩
  refine ⟨h1, by omega, ?_⟩
  rw [hall.length h.ok h.nd fun p hp => ⟨(h.mem p hp).1, (h.mem p hp).2.2⟩]
  omega
end Go.Proofs.YtomkkkbdipcjgaaDoor
