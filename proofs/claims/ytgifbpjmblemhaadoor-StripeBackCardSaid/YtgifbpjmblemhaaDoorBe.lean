/- Hits, plain: blocks of which few are gone and few are changed are mended to the blocks that were. -/
import Derived.Test.YtgifbpjmblemhaaDoorMb
import Derived.Test.YtgifbpjmblemhaaDoorMn
namespace Go.Proofs.YtgifbpjmblemhaaDoor
set_option linter.unusedVariables false
set_option linter.unusedSimpArgs false
/-- what a block costs that was y -/
def cost (x y : List UInt8) : Nat := if x.length = 8 then (if x = y then 0 else 2) else 1
def wtN (f : Nat → Nat) : Nat → Nat
  | 0 => 0
  | k + 1 => wtN f k + f k
theorem wtN_congr {f g : Nat → Nat} (m : Nat) (h : ∀ i, i < m → f i = g i) : wtN f m = wtN g m := by
  induction m with
  | zero => rfl
  | succ m ih => unfold wtN; rw [ih (fun i hi => h i (by omega)), h m (by omega)]
theorem wtN_put {f g : Nat → Nat} (m p c : Nat) (hp : p < m) (h : ∀ i, i < m → i ≠ p → g i = f i) (hc : g p ≤ f p + c) : wtN g m ≤ wtN f m + c := by
  induction m with
  | zero => omega
  | succ m ih =>
    unfold wtN
    by_cases e : p = m
    · subst e
      rw [wtN_congr p (fun i hi => h i (by omega) (by omega))]
      omega
    · have := ih (by omega) (fun i hi => h i (by omega))
      rw [h m (by omega) (fun e2 => e e2.symm)]
      omega
theorem wtN_zero {f : Nat → Nat} (m : Nat) (h : ∀ i, i < m → f i = 0) : wtN f m = 0 := by
  induction m with
  | zero => rfl
  | succ m ih => unfold wtN; rw [ih (fun i hi => h i (by omega)), h m (by omega)]
/-- the changed places of a column -/
def chgH (G OG : List (List UInt8)) (j n : Nat) : List Nat := (List.range n).filter fun i => decide ((bi G i).length = 8) && decide (colV (bi G i) j ≠ colV (bi OG i) j)
theorem few_wt (G OG : List (List UInt8)) (j n : Nat) : 2 * (chgH G OG j n).length + (gnL G n).length ≤ wtN (fun i => cost (bi G i) (bi OG i)) n := by
  induction n with
  | zero => simp [chgH, gnL, wtN]
  | succ n ih =>
    have e : chgH G OG j (n + 1) = chgH G OG j n ++ (if (decide ((bi G n).length = 8) && decide (colV (bi G n) j ≠ colV (bi OG n) j)) = true then [n] else []) := by
      unfold chgH
      rw [List.range_succ, List.filter_append]
      congr 1
      rw [List.filter_cons]
      split <;> rfl
    rw [e, List.length_append]
    unfold gnL wtN
    unfold cost at ih ⊢
    by_cases h8 : (bi G n).length = 8
    · rw [if_pos h8, if_pos h8]
      by_cases hq : bi G n = bi OG n
      · rw [if_pos hq, hq]
        simp
        omega
      · rw [if_neg hq]
        split
        · simp only [List.length_singleton]
          omega
        · simp only [List.length_nil]
          omega
    · rw [if_neg h8, if_neg h8]
      simp [h8]
      omega
/-- a group that was hit not too much is mended to what it was -/
theorem mnd_of_hits (p : List UInt8) (a k : Nat) (G : List (List UInt8)) (hk : 1 ≤ k ∧ k ≤ 223) (hG : G.length = k + 32) (hw : wtN (fun i => cost (bi G i) (bi (grpB p a k) i)) (k + 32) ≤ 32) : Mnd G (k + 32) (fun j => colB (grpB p a k) j) := fun j hj => by
  have hf := few_wt G (grpB p a k) j (k + 32)
  have hco : ∀ i, i < k + 32 → co (colB G j) i = colV (bi G i) j := fun i hi => co_colB _ _ _ (by omega)
  have hcv : ∀ i, i < k + 32 → co (colB (grpB p a k) j) i = colV (bi (grpB p a k) i) j := fun i hi => co_colB _ _ _ (by simp; omega)
  refine ⟨chgH G (grpB p a k) j (k + 32), ⟨(grp_code p a k j hj).1, by simp, by simp [hG], by omega, gnL_eok G _ (by omega), ?_, ?_, ?_, by omega⟩⟩
  · exact List.Pairwise.filter _ List.nodup_range
  · intro q hq
    unfold chgH at hq
    rw [List.mem_filter] at hq
    obtain ⟨h1, h2⟩ := hq
    have h1 : q < k + 32 := by simpa using h1
    simp only [Bool.and_eq_true, decide_eq_true_eq] at h2
    refine ⟨h1, by rw [hco q h1, hcv q h1]; exact h2.2, fun hm => ?_⟩
    obtain ⟨i, e, _, h3⟩ := (gnL_mem G _ _).1 hm
    have : q = i := by omega
    subst this
    exact h3 h2.1
  · intro q h1 h2 h3
    unfold chgH
    rw [List.mem_filter]
    refine ⟨by simpa using h1, ?_⟩
    simp only [Bool.and_eq_true, decide_eq_true_eq]
    rw [hco q h1, hcv q h1] at h2
    refine ⟨?_, h2⟩
    by_cases h8 : (bi G q).length = 8
    · exact h8
    · exact absurd ((gnL_mem G _ _).2 ⟨q, rfl, h1, h8⟩) h3
/-- the blocks of group g among all -/
theorem bi_grps (p : List UInt8) (l : List Nat) (g i : Nat) (hg : g < l.length) (hi : i < szG l g + 32) : bi (grps p 0 l) (atG l g + i) = bi (grpB p (sumN (l.take g)) (szG l g)) i := by
  have e : l = l.take g ++ (szG l g :: l.drop (g + 1)) := by
    conv => lhs; rw [← List.take_append_drop g l]
    rw [List.drop_eq_getElem_cons hg]
    simp [szG, List.getD_eq_getElem?_getD, List.getElem?_eq_getElem hg]
  have hl : (grps p 0 (l.take g)).length = atG l g := by
    rw [grps_length, List.length_take, Nat.min_eq_left (by omega)]
    rfl
  have e2 : grps p 0 l = grps p 0 (l.take g) ++ (grpB p (sumN (l.take g)) (szG l g) ++ grps p (sumN (l.take g) + szG l g) (l.drop (g + 1))) := by
    conv => lhs; rw [e]
    rw [grps_app, Nat.zero_add]
    rfl
  rw [e2, bi_app, hl, if_neg (by omega), bi_app, grpB_length, if_pos (by omega)]
  congr 1
  omega
/-- what group g costs -/
def wtG (a B : List (List UInt8)) (l : List Nat) (g : Nat) : Nat := wtN (fun i => cost (bi a (atG l g + i)) (bi B (atG l g + i))) (szG l g + 32)
/-- the words of the blocks' columns -/
def colW (p : List UInt8) (l : List Nat) (g j : Nat) : List UInt8 := colB (grpB p (sumN (l.take g)) (szG l g)) j
theorem mnd_all (p : List UInt8) (l : List Nat) (a : List (List UInt8)) (hm : ∀ k ∈ l, 1 ≤ k ∧ k ≤ 223) (hl : a.length = sumN l + 32 * l.length) (hw : ∀ g, g < l.length → wtG a (grps p 0 l) l g ≤ 32) : MndAll a l (colW p l) l.length := fun g hg => by
  have hsz : szG l g ∈ l := by
    unfold szG
    rw [List.getD_eq_getElem?_getD, List.getElem?_eq_getElem hg]
    exact List.getElem_mem hg
  refine mnd_of_hits p _ _ _ (hm _ hsz) (grpG_length _ _ _ hg hl) ?_
  have h1 := hw g hg
  unfold wtG at h1
  rw [wtN_congr (f := fun i => cost (bi (grpG a l g) i) (bi (grpB p (sumN (l.take g)) (szG l g)) i)) (g := fun i => cost (bi a (atG l g + i)) (bi (grps p 0 l) (atG l g + i))) _ (fun i hi => by
    rw [bi_grpG _ _ _ _ hi, bi_grps p l g i hg hi])]
  exact h1
theorem file_of (p : List UInt8) (l : List Nat) (g : Nat) (hg : g ≤ l.length) (hp : 8 * sumN l ≤ p.length) : fileG l (colW p l) g = p.take (8 * sumN (l.take g)) := by
  have hle : ∀ k, sumN (l.take k) ≤ sumN l := fun k => by
    have := sumN_app (l.take k) (l.drop k)
    rw [List.take_append_drop] at this
    omega
  induction g with
  | zero => simp [fileG]
  | succ g ih =>
    have h1 := sumN_take l g (by omega)
    have h2 := hle (g + 1)
    unfold fileG
    rw [ih (by omega)]
    refine list_ext (by simp; omega) fun q hq => ?_
    have hq : q < 8 * sumN (l.take (g + 1)) := by
      simp at hq
      omega
    have htk : ∀ (m q : Nat), q < m → co (p.take m) q = co p q := fun m q h => by simp [co, List.getD_eq_getElem?_getD, List.getElem?_take, h]
    rw [htk _ q hq, co_app, List.length_take, Nat.min_eq_left (by omega)]
    split
    · rename_i h
      rw [htk _ q h]
    · rename_i h
      unfold prt
      rw [co_tab _ _ _ (by omega)]
      unfold colW
      rw [co_colB _ _ _ (by simp; omega)]
      unfold grpB
      rw [bi_app, dat_length, if_pos (by omega), bi_dat _ _ _ _ (by omega)]
      unfold colV
      rw [if_pos (by simp), co_blk _ _ _ (Nat.mod_lt _ (by omega))]
      congr 1
      omega
theorem file_pad (f : List UInt8) (l : List Nat) (hl : shp f.length = l) : fileG l (colW (padL f) l) l.length = padL f := by
  have h := shp_sum f.length
  rw [hl] at h
  rw [file_of _ _ _ (Nat.le_refl _) (by simp [h]), List.take_length, List.take_of_length_le (by simp [h])]
theorem pad_take (f : List UInt8) : (padL f).take f.length = f := by simp [padL]
theorem pad_zall (f : List UInt8) : zall ((padL f).drop f.length) := fun i hi => by
  have e : (padL f).drop f.length = List.replicate (8 * nbk f.length - f.length) 0 := by simp [padL]
  rw [e] at hi ⊢
  have hi : i < 8 * nbk f.length - f.length := by simpa using hi
  simp [co, List.getD_eq_getElem?_getD, hi]
end Go.Proofs.YtgifbpjmblemhaaDoor
