/- A word mended, plain: the mended word is a code word; there is one at most; which places a register's roots tell. -/
import Derived.Test.YtgchfijeiggimaaDoorFy
import Derived.Test.YtgchfijeiggimaaDoorLb
namespace Go.Proofs.YtgchfijeiggimaaDoor
set_option linter.unusedVariables false
namespace Gf
theorem cv_assoc (f g s : Nat → UInt8) (k : Nat) : cv (cv f g) s k = cv f (cv g s) k := by
  unfold cv
  have e1 : ∀ i, i < k + 1 → gm (sm (fun a => gm (f a) (g (i - a))) (i + 1)) (s (k - i)) = sm (fun a => gm (f a) (gm (ps a g i) (s (k - i)))) (k + 1) := fun i hi => by
    have h1 : sm (fun a => gm (f a) (g (i - a))) (i + 1) = sm (fun a => gm (f a) (ps a g i)) (k + 1) := by
      rw [sm_more (n := i + 1) (m := k + 1) (by omega) (fun a ha => by unfold ps; rw [if_neg (by omega), gm_zero])]
      exact sm_congr fun a ha => by unfold ps; rw [if_pos (by omega)]
    rw [h1, gm_comm, ← sm_gm]
    exact sm_congr fun a _ => by rw [gm_comm, gm_assoc]
  rw [sm_congr e1, sm_comm]
  refine sm_congr fun a ha => ?_
  rw [sm_gm]
  congr 1
  rw [show k + 1 = a + (k - a + 1) by omega, sm_add, sm_zero (fun i hi => by unfold ps; rw [if_neg (by omega), zero_gm]), UInt8.zero_xor]
  exact sm_congr fun i hi => by
    unfold ps
    rw [if_pos (by omega), Nat.add_sub_cancel_left, Nat.sub_sub]
theorem cv_mulL (a b : List UInt8) : co (mulL a b) = cv (co a) (co b) := funext fun k => co_mulL' a b k
theorem cv_comm (f g : Nat → UInt8) (k : Nat) : cv f g k = cv g f k := by
  unfold cv
  rw [sm_rev]
  exact sm_congr fun i hi => by rw [show k - (k - i) = i by omega, gm_comm]
theorem hv_put1 (x : UInt8) (w : List UInt8) (p : Nat) (hp : p < w.length) (y : UInt8) : hv x (w.set p (co w p ^^^ y)) = hv x w ^^^ gm y (px x (w.length - 1 - p)) := by
  induction w generalizing p with
  | nil => cases hp
  | cons c w ih =>
    cases p with
    | zero =>
      rw [List.set_cons_zero, hv_cons, hv_cons, show co (c :: w) 0 = c from rfl, xor_gm, List.length_cons]
      rw [show w.length + 1 - 1 - 0 = w.length by omega, UInt8.xor_assoc, UInt8.xor_assoc, UInt8.xor_comm (gm y _)]
    | succ p =>
      rw [List.set_cons_succ, hv_cons, hv_cons, show co (c :: w) (p + 1) = co w p by simp [co], List.length_set, ih p (by simpa using hp), List.length_cons]
      rw [show w.length + 1 - 1 - (p + 1) = w.length - 1 - p by omega, UInt8.xor_assoc]
end Gf
/-- a word with something added at places -/
def putW (W : List UInt8) (l : List (Nat × UInt8)) : List UInt8 := l.foldl (fun w e => w.set e.1 (co w e.1 ^^^ e.2)) W
theorem putW_cons (W : List UInt8) (e : Nat × UInt8) (l : List (Nat × UInt8)) : putW W (e :: l) = putW (W.set e.1 (co W e.1 ^^^ e.2)) l := rfl
theorem putW_snoc (W : List UInt8) (e : Nat × UInt8) (l : List (Nat × UInt8)) : putW W (l ++ [e]) = (putW W l).set e.1 (co (putW W l) e.1 ^^^ e.2) := by
  unfold putW
  rw [List.foldl_append]; rfl
@[simp] theorem putW_length (W : List UInt8) (l : List (Nat × UInt8)) : (putW W l).length = W.length := by
  induction l generalizing W with
  | nil => rfl
  | cons e l ih => rw [putW_cons, ih, List.length_set]
theorem putW_hv (n : Nat) (l : List (Nat × UInt8)) (W : List UInt8) (hW : W.length = n) (h : ∀ e ∈ l, e.1 < n) (j : Nat) : Gf.hv (Gf.al j) (putW W l) = Gf.hv (Gf.al j) W ^^^ Gf.ls (l.map fun e => (e.2, Gf.al (n - 1 - e.1))) j := by
  induction l generalizing W with
  | nil => exact UInt8.xor_zero.symm
  | cons e l ih =>
    rw [putW_cons, ih _ (by rw [List.length_set, hW]) (fun d hd => h d (by simp [hd])), Gf.hv_put1 _ _ _ (by rw [hW]; exact h e (by simp)), List.map_cons, Gf.ls_cons, hW, Gf.px_al, Gf.px_al, Nat.mul_comm, UInt8.xor_assoc]
theorem putW_out (l : List (Nat × UInt8)) (W : List UInt8) (p : Nat) (h : p ∉ l.map (·.1)) : co (putW W l) p = co W p := by
  induction l generalizing W with
  | nil => rfl
  | cons e l ih =>
    rw [List.map_cons, List.mem_cons, not_or] at h
    rw [putW_cons, ih _ h.2, co_set, if_neg (fun e2 => h.1 e2.1.symm)]
theorem putW_in (l : List (Nat × UInt8)) (W : List UInt8) (hn : (l.map (·.1)).Nodup) (e : Nat × UInt8) (he : e ∈ l) (hp : e.1 < W.length) : co (putW W l) e.1 = co W e.1 ^^^ e.2 := by
  induction l generalizing W with
  | nil => cases he
  | cons d l ih =>
    rw [List.map_cons, List.nodup_cons] at hn
    rw [putW_cons]
    rcases List.mem_cons.1 he with rfl | he
    · rw [putW_out l _ _ hn.1, co_set, if_pos ⟨rfl, hp⟩]
    · have hne : d.1 ≠ e.1 := fun h => hn.1 (by rw [h]; exact List.mem_map.2 ⟨e, he, rfl⟩)
      rw [ih _ hn.2 he (by rw [List.length_set]; exact hp), co_set, if_neg (fun e2 => hne e2.1)]
/-- the values of places -/
def xsN (n : Nat) (H : List Nat) : List UInt8 := H.map fun p => Gf.al (n - 1 - p)
@[simp] theorem xsN_length (n : Nat) (H : List Nat) : (xsN n H).length = H.length := by simp [xsN]
theorem xsN_nodup {n : Nat} {H : List Nat} (hn : n ≤ 255) (h : H.Nodup) (hp : ∀ p ∈ H, p < n) : (xsN n H).Nodup := by
  induction H with
  | nil => exact List.nodup_nil
  | cons p H ih =>
    have hn2 := List.nodup_cons.1 h
    unfold xsN
    rw [List.map_cons, List.nodup_cons]
    refine ⟨fun hm => ?_, ih hn2.2 fun q hq => hp q (by simp [hq])⟩
    obtain ⟨q, hq, he⟩ := List.mem_map.1 hm
    have h1 := hp p (by simp)
    have h2 := hp q (by simp [hq])
    have he := (Gf.al_inj _ _).1 he
    obtain rfl : q = p := by omega
    exact hn2.1 hq
theorem al_inv (m : Nat) : ∃ y, Gf.gm (Gf.al m) y = 1 := by
  refine ⟨Gf.gd 1 (Gf.al m), ?_⟩
  rw [Gf.gm_comm]
  exact Gf.gd_gm _ _ (Gf.al_ne m)
/-- the places of a list of the erased ones and others -/
structure All (n : Nat) (z : List Int) (H P : List Nat) : Prop where
  nd : P.Nodup
  lt : ∀ p ∈ P, p < n
  mem : ∀ p, p < n → (p ∈ P ↔ ((p : Int) ∈ z ∨ p ∈ H))
/-- a register and its roots -/
structure Reg (W C : List UInt8) (n L : Nat) (z : List Int) (H : List Nat) : Prop where
  lw : W.length = n
  hn : n ≤ 255
  ok : EOk n z
  rf : RF (forL (synL W) (Gf.locL (xsL n z))) C L
  few : 2 * L + z.length ≤ 32
  nd : H.Nodup
  len : H.length = L
  mem : ∀ p ∈ H, p < n ∧ (p : Int) ∉ z ∧ ∃ y, Gf.gm (Gf.al (n - 1 - p)) y = 1 ∧ evL C y = 0
theorem ints_mem {n : Nat} {z : List Int} (hok : EOk n z) {q : Int} (hq : q ∈ z) : 0 ≤ q ∧ q < n := by
  obtain ⟨k, hk, rfl⟩ := List.getElem_of_mem hq
  have := hok.1 k hk
  unfold ci at this
  rw [List.getD_eq_getElem?_getD, List.getElem?_eq_getElem hk] at this
  exact this
theorem ints_nodup {n : Nat} {z : List Int} (hok : EOk n z) : z.Nodup := by
  rw [List.nodup_iff_pairwise_ne, List.pairwise_iff_getElem]
  intro i j hi hj hij
  have := hok.2.1 j i hij hj
  unfold ci at this
  rw [List.getD_eq_getElem?_getD, List.getElem?_eq_getElem hj, List.getD_eq_getElem?_getD, List.getElem?_eq_getElem hi] at this
  exact fun e => this e.symm
/-- how many there are -/
theorem All.length {n : Nat} {z : List Int} {H P : List Nat} (h : All n z H P) (hok : EOk n z) (hH : H.Nodup) (hm : ∀ p ∈ H, p < n ∧ (p : Int) ∉ z) : P.length = z.length + H.length := by
  have hzn : (z.map Int.toNat).Nodup := by
    have h1 := ints_nodup hok
    rw [List.nodup_iff_pairwise_ne, List.pairwise_map]
    rw [List.nodup_iff_pairwise_ne] at h1
    refine List.Pairwise.imp_of_mem (fun {a b} ha hb hab => ?_) h1
    have := ints_mem hok ha
    have := ints_mem hok hb
    omega
  have hall : (z.map Int.toNat ++ H).Nodup := List.nodup_append.2 ⟨hzn, hH, fun a ha b hb e => by
    subst e
    obtain ⟨q, hq, rfl⟩ := List.mem_map.1 ha
    have := ints_mem hok hq
    exact (hm _ hb).2 (by rw [Int.toNat_of_nonneg this.1]; exact hq)⟩
  have h1 := nodup_sub P (z.map Int.toNat ++ H) h.nd fun p hp => by
    rcases (h.mem p (h.lt p hp)).1 hp with h2 | h2
    · exact List.mem_append.2 (.inl (List.mem_map.2 ⟨p, h2, by simp⟩))
    · exact List.mem_append.2 (.inr h2)
  have h2 := nodup_sub (z.map Int.toNat ++ H) P hall fun p hp => by
    rcases List.mem_append.1 hp with h2 | h2
    · obtain ⟨q, hq, rfl⟩ := List.mem_map.1 h2
      have := ints_mem hok hq
      exact (h.mem q.toNat (by omega)).2 (.inl (by rw [Int.toNat_of_nonneg this.1]; exact hq))
    · exact (h.mem p (hm p h2).1).2 (.inr h2)
  simp at h1 h2
  omega
theorem Reg.all_len {W C : List UInt8} {n L : Nat} {z : List Int} {H P : List Nat} (h : Reg W C n L z H) (hP : All n z H P) : P.length = z.length + L := by
  rw [hP.length h.ok h.nd fun p hp => ⟨(h.mem p hp).1, (h.mem p hp).2.1⟩, h.len]
/-- the errata locator is the product over all these places -/
theorem Reg.loc {W C : List UInt8} {n L : Nat} {z : List Int} {H P : List Nat} (h : Reg W C n L z H) (hP : All n z H P) (j : Nat) : co (mulL C (Gf.locL (xsL n z))) j = co (Gf.locL (xsN n P)) j := by
  have hl := h.all_len hP
  refine Gf.loc_of _ _ (xsN_nodup h.hn hP.nd hP.lt) ?_ (fun i hi => ?_) (fun x hx => ?_) j
  · rw [co_mulL']
    show (0 : UInt8) ^^^ Gf.gm (co C 0) (co (Gf.locL (xsL n z)) 0) = 1
    rw [h.rf.run.one, Gf.locL_one, Gf.one_gm, UInt8.zero_xor]
  · rw [xsN_length, hl] at hi
    rw [co_mulL']
    refine Gf.sm_zero fun a ha => ?_
    by_cases h1 : a ≤ L
    · rw [show co (Gf.locL (xsL n z)) (i - a) = 0 from co_ge (by rw [loc_len]; omega), Gf.gm_zero]
    · rw [show co C a = 0 from co_ge (by have := h.rf.len; omega), Gf.zero_gm]
  · obtain ⟨p, hp, rfl⟩ := List.mem_map.1 hx
    have hpn := hP.lt p hp
    rcases (hP.mem p hpn).1 hp with h1 | h1
    · obtain ⟨y, hy⟩ := al_inv (n - 1 - p)
      refine ⟨y, hy, ?_⟩
      rw [evL_mul, (Gf.loc_zero _ _ _ (Gf.al_ne _) hy).2 ((mem_xsL h.hn hpn h.ok.1).2 h1), Gf.gm_zero]
    · obtain ⟨_, _, y, hy, he⟩ := h.mem p h1
      refine ⟨y, hy, ?_⟩
      rw [evL_mul, he, Gf.zero_gm]
/-- the syndromes run by it -/
theorem RF.run_all {W C : List UInt8} {n L : Nat} {z : List Int} (hrf : RF (forL (synL W) (Gf.locL (xsL n z))) C L) (hle : z.length ≤ 32) (k : Nat) (h1 : z.length + L ≤ k) (h2 : k < 32) : Gf.cv (co (mulL C (Gf.locL (xsL n z)))) (co (synL W)) k = 0 := by
  have hfl := for_len (synL W) n z
  rw [Gf.cv_mulL, Gf.cv_assoc]
  have hr := hrf.run.run (k - z.length) (by omega) (by rw [hfl]; omega)
  rw [← hr]
  unfold Gf.dis
  show Gf.sm _ (k + 1) = _
  rw [Gf.sm_more (n := L + 1) (m := k + 1) (by omega) (fun i hi => by rw [show co C i = 0 from co_ge (by have := hrf.len; omega), Gf.zero_gm])]
  refine Gf.sm_congr fun i hi => ?_
  rw [co_for _ _ _ (by rw [hfl]; omega), loc_tr, loc_len, Nat.add_sub_cancel, Gf.cv_mulL, Gf.cv_comm, show z.length + (k - z.length - i) = k - i by omega]
theorem Reg.run {W C : List UInt8} {n L : Nat} {z : List Int} {H P : List Nat} (h : Reg W C n L z H) (hP : All n z H P) : Gf.Run (co (synL W)) 32 (co (Gf.locL (xsN n P))) (xsN n P).length := by
  have hl := h.all_len hP
  refine ⟨Gf.locL_one _, fun k h1 h2 => ?_⟩
  rw [xsN_length, hl] at h1 ⊢
  rw [← h.rf.run_all h.ok.2.2 k h1 h2, show co (mulL C (Gf.locL (xsL n z))) = co (Gf.locL (xsN n P)) from funext (h.loc hP)]
  unfold Gf.dis Gf.cv
  exact (Gf.sm_more (by omega) fun i hi => by rw [show co (Gf.locL (xsN n P)) i = 0 from co_ge (by rw [Gf.locL_length, xsN_length, hl]; omega), Gf.zero_gm]).symm
/-- something to add at these places that makes the syndromes -/
def Adds (W : List UInt8) (n : Nat) (l : List (Nat × UInt8)) : Prop := ∀ j, j < 32 → Gf.ls (l.map fun e => (e.2, Gf.al (n - 1 - e.1))) j = co (synL W) j
theorem zip_back (n : Nat) (P : List Nat) (l : List (UInt8 × UInt8)) (h : l.map (·.2) = xsN n P) : ∃ l2 : List (Nat × UInt8), l2.map (·.1) = P ∧ l2.map (fun e => (e.2, Gf.al (n - 1 - e.1))) = l := by
  induction P generalizing l with
  | nil =>
    have : l = [] := by
      have := congrArg List.length h
      simpa using this
    exact ⟨[], rfl, by rw [this]; rfl⟩
  | cons p P ih =>
    cases l with
    | nil => cases h
    | cons e l =>
      simp only [xsN, List.map_cons, List.cons.injEq] at h
      obtain ⟨l2, h1, h2⟩ := ih l h.2
      refine ⟨(p, e.1) :: l2, by rw [List.map_cons, h1], ?_⟩
      rw [List.map_cons, h2, ← h.1]
theorem Reg.adds {W C : List UInt8} {n L : Nat} {z : List Int} {H P : List Nat} (h : Reg W C n L z H) (hP : All n z H P) : ∃ l : List (Nat × UInt8), l.map (·.1) = P ∧ Adds W n l := by
  obtain ⟨l, hl, hs⟩ := Gf.sums_of _ (xsN_nodup h.hn hP.nd hP.lt) _ 32 (h.run hP)
  obtain ⟨l2, h1, h2⟩ := zip_back n P l hl
  exact ⟨l2, h1, fun j hj => by rw [h2, hs j hj]⟩
/-- then the mended word is a code word, that differs at just these others -/
theorem Reg.chg {W C : List UInt8} {n L : Nat} {z : List Int} {H P : List Nat} (h : Reg W C n L z H) (hP : All n z H P) (l : List (Nat × UInt8)) (hl : l.map (·.1) = P) (ha : Adds W n l) : Chg (putW W l) W n z H := by
  have hlt : ∀ e ∈ l, e.1 < n := fun e he => hP.lt _ (by rw [← hl]; exact List.mem_map.2 ⟨e, he, rfl⟩)
  have hcode : IsCode (putW W l) := fun j hj => by
    rw [putW_hv n l W h.lw hlt, ha j hj, synL, co_tab _ _ _ hj, UInt8.xor_self]
  have hall : ∀ p, p < n → co W p ≠ co (putW W l) p → (p : Int) ∉ z → p ∈ H := fun p hp hne hz => by
    have hm : p ∈ P := Classical.byContradiction fun hm => hne (putW_out l W p (by rw [hl]; exact hm)).symm
    rcases (hP.mem p hp).1 hm with h1 | h1
    · exact absurd h1 hz
    · exact h1
  have h1 : Chg (putW W l) W n z (H.filter fun p => decide (co W p ≠ co (putW W l) p)) := by
    refine ⟨hcode, by rw [putW_length, h.lw], h.lw, h.hn, h.ok, h.nd.sublist List.filter_sublist, fun p hp => ?_, fun p hp hne hz => ?_, ?_⟩
    · obtain ⟨h2, h3⟩ := List.mem_filter.1 hp
      exact ⟨(h.mem p h2).1, by simpa using h3, (h.mem p h2).2.1⟩
    · exact List.mem_filter.2 ⟨hall p hp hne hz, by simpa using hne⟩
    · have := List.length_filter_le (fun p => decide (co W p ≠ co (putW W l) p)) H
      have := h.few
      have := h.len
      omega
  have h2 := (h1.reg h.rf).1
  have h3 : (H.filter fun p => decide (co W p ≠ co (putW W l) p)) = H := by
    refine List.filter_eq_self.2 fun a ha => ?_
    have := (List.length_filter_eq_length_iff (l := H) (p := fun p => decide (co W p ≠ co (putW W l) p))).1 (by rw [← h2, h.len])
    exact this a ha
  rw [h3] at h1
  exact h1
/-- few places that differ -/
theorem diffs_le {a b : List UInt8} {n : Nat} (ha : a.length = n) (hb : b.length = n) (hn : n ≤ 255) (K : List Nat) (h : ∀ p, p < n → co a p ≠ co b p → p ∈ K) : diffs a b ≤ K.length := by
  have hd : (Gf.sumW a b).length = n := by simp [Gf.sumW, ha, hb]
  have h1 := Gf.oth_le [] (Gf.sumW a b) (by rw [hd]; exact hn) K fun p hp hc _ => by
    rw [hd] at hp
    exact h p hp fun e => (sum_ne (by rw [ha, hb]) p).1 hc e.symm
  unfold Gf.oth at h1
  have e : ((Gf.pr (Gf.sumW a b)).filter fun q => q.1 != 0 && !(([] : List UInt8).contains q.2)) = (Gf.pr (Gf.sumW a b)).filter (fun q => q.1 != 0) := by
    congr 1
    funext q
    simp
  rw [e, Gf.pr_weight] at h1
  exact h1
theorem Chg.uniq {v v' W : List UInt8} {n : Nat} {z : List Int} {H H' : List Nat} (h : Chg v W n z H) (k : Chg v' W n z H') : v = v' := by
  refine h.code.apart k.code (by rw [h.lv, k.lv]) (by rw [h.lv]; exact h.hn) ?_
  have := diffs_le h.lv k.lv h.hn (z.map Int.toNat ++ (H ++ H')) fun p hp hne => by
    by_cases hz : (p : Int) ∈ z
    · exact List.mem_append.2 (.inl (List.mem_map.2 ⟨p, hz, by simp⟩))
    · by_cases h1 : co W p = co v p
      · exact List.mem_append.2 (.inr (List.mem_append.2 (.inr (k.all p hp (fun e => hne (by rw [← h1, e])) hz))))
      · exact List.mem_append.2 (.inr (List.mem_append.2 (.inl (h.all p hp h1 hz))))
  have h1 := h.few
  have h2 := k.few
  simp at this
  omega
/-- the others are the register's roots -/
theorem Chg.rootC {v W C : List UInt8} {n L : Nat} {z : List Int} {H : List Nat} (h : Chg v W n z H) (hrf : RF (forL (synL W) (Gf.locL (xsL n z))) C L) (p : Nat) (hp : p < n) (y : UInt8) (hy : Gf.gm (Gf.al (n - 1 - p)) y = 1) (hz : (p : Int) ∉ z) : evL C y = 0 ↔ p ∈ H := by
  obtain ⟨h1, h2⟩ := h.reg hrf
  have hvw : v.length = W.length := by rw [h.lv, h.lw]
  have hdl : (Gf.sumW v W).length = n := by simp [Gf.sumW, h.lv, h.lw]
  rw [evL_congr h2 y, Gf.loc_zero _ _ _ (Gf.al_ne _) hy]
  have := Gf.mem_oth (xsL n z) (Gf.sumW v W) (by rw [hdl]; exact h.hn) p (by rw [hdl]; exact hp)
  rw [hdl] at this
  unfold othY
  rw [this, sum_ne hvw, mem_xsL h.hn hp h.ok.1]
  exact ⟨fun ⟨h3, h4⟩ => h.all p hp h3 h4, fun h3 => ⟨(h.mem p h3).2.1, (h.mem p h3).2.2⟩⟩
/-- so a list of them has their number -/
theorem Chg.count {v W C : List UInt8} {n L : Nat} {z : List Int} {H F : List Nat} (h : Chg v W n z H) (hrf : RF (forL (synL W) (Gf.locL (xsL n z))) C L) (hF : F.Nodup)
    (hm : ∀ p, p ∈ F ↔ (p < n ∧ (p : Int) ∉ z ∧ ∃ y, Gf.gm (Gf.al (n - 1 - p)) y = 1 ∧ evL C y = 0)) : F.length = L := by
  rw [(h.reg hrf).1]
  have h1 := nodup_sub F H hF fun p hp => by
    obtain ⟨h2, h3, y, hy, he⟩ := (hm p).1 hp
    exact (h.rootC hrf p h2 y hy h3).1 he
  have h2 := nodup_sub H F h.nd fun p hp => by
    have h3 := h.mem p hp
    obtain ⟨y, hy⟩ := al_inv (n - 1 - p)
    exact (hm p).2 ⟨h3.1, h3.2.2, y, hy, (h.rootC hrf p h3.1 y hy h3.2.2).2 hp⟩
  omega
end Go.Proofs.YtgchfijeiggimaaDoor
