/- A file as blocks, plain: the padded file, the shape, the parity of data, the blocks of a group and of a file. -/
import Derived.Test.YtomkkkbdipcjgaaDoorGn
namespace Go.Proofs.YtomkkkbdipcjgaaDoor
set_option linter.unusedVariables false
set_option linter.unusedSimpArgs false
/-- how many data blocks -/
def nbk (s : Nat) : Nat := if s = 0 then 1 else (s + 7) / 8
theorem nbk_pos (s : Nat) : 1 ≤ nbk s := by unfold nbk; split <;> omega
theorem nbk_le (s : Nat) : s ≤ 8 * nbk s := by unfold nbk; split <;> omega
theorem nbk_bd (s : Nat) (h : s ≤ 2000) : nbk s ≤ 250 := by unfold nbk; split <;> omega
def padL (f : List UInt8) : List UInt8 := f ++ List.replicate (8 * nbk f.length - f.length) 0
@[simp] theorem padL_length (f : List UInt8) : (padL f).length = 8 * nbk f.length := by
  have := nbk_le f.length
  simp [padL]; omega
/-- the shape of a file of n data blocks -/
def shpN (n : Nat) : List Nat := if 223 < n then [223, n - 223] else [n]
def shp (s : Nat) : List Nat := shpN (nbk s)
def sumN (l : List Nat) : Nat := l.foldr (· + ·) 0
@[simp] theorem sumN_nil : sumN [] = 0 := rfl
@[simp] theorem sumN_cons (a : Nat) (l : List Nat) : sumN (a :: l) = a + sumN l := rfl
theorem sumN_app (a b : List Nat) : sumN (a ++ b) = sumN a + sumN b := by
  induction a with
  | nil => simp
  | cons x a ih => simp [ih]; omega
theorem shpN_sum (n : Nat) : sumN (shpN n) = n := by unfold shpN; split <;> simp <;> omega
theorem shpN_len (n : Nat) : (shpN n).length = if 223 < n then 2 else 1 := by unfold shpN; split <;> rfl
theorem shpN_le (n : Nat) : 1 ≤ (shpN n).length ∧ (shpN n).length ≤ 2 := by unfold shpN; split <;> simp
theorem shpN_mem (n : Nat) (h1 : 1 ≤ n) (h2 : n ≤ 250) : ∀ k ∈ shpN n, 1 ≤ k ∧ k ≤ 223 := by
  unfold shpN
  intro k hk
  split at hk
  · simp at hk
    omega
  · simp at hk
    omega
/-- where group g begins among all blocks, and how many data blocks it has -/
def atG (l : List Nat) (g : Nat) : Nat := sumN (l.take g) + 32 * g
def szG (l : List Nat) (g : Nat) : Nat := l.getD g 0
theorem sumN_take (l : List Nat) (g : Nat) (h : g < l.length) : sumN (l.take (g + 1)) = sumN (l.take g) + szG l g := by
  have e : l.take (g + 1) = l.take g ++ [szG l g] := by
    rw [List.take_add_one, List.getElem?_eq_getElem h]
    simp [szG, List.getD_eq_getElem?_getD, List.getElem?_eq_getElem h]
  rw [e, sumN_app]; simp
theorem atG_succ (l : List Nat) (g : Nat) (h : g < l.length) : atG l (g + 1) = atG l g + (szG l g + 32) := by
  unfold atG
  rw [sumN_take l g h]; omega
theorem atG_all (l : List Nat) : atG l l.length = sumN l + 32 * l.length := by simp [atG]
theorem atG_zero (l : List Nat) : atG l 0 = 0 := by simp [atG]
theorem atG_le (l : List Nat) (g : Nat) (h : g < l.length) : atG l g + (szG l g + 32) ≤ sumN l + 32 * l.length := by
  have h1 := atG_succ l g h
  have h2 : sumN (l.take (g + 1)) ≤ sumN l := by
    have := sumN_app (l.take (g + 1)) (l.drop (g + 1))
    rw [List.take_append_drop] at this
    omega
  have h3 : atG l (g + 1) = sumN (l.take (g + 1)) + 32 * (g + 1) := rfl
  omega
/-- the parity of data: what is left by a long division -/
def parR (d : List UInt8) : Nat → List UInt8
  | 0 => d ++ List.replicate 32 0
  | i + 1 => mixr (parR d i) (genL 32) i (co (parR d i) i) 33
theorem parR_pr (d : List UInt8) (i : Nat) (h : i ≤ d.length) : PR d (parR d i) i := by
  induction i with
  | zero => exact PR.start d
  | succ i ih => exact (ih (by omega)).step (by omega)
def parL (d : List UInt8) : List UInt8 := (parR d d.length).drop d.length
theorem parL_spec (d : List UInt8) : (parL d).length = 32 ∧ IsCode (d ++ parL d) := (parR_pr d d.length (Nat.le_refl _)).done
@[simp] theorem parL_length (d : List UInt8) : (parL d).length = 32 := (parL_spec d).1
theorem parL_only {d r : List UInt8} (h : IsCode (d ++ r)) (hr : r.length = 32) (hn : d.length ≤ 223) : r = parL d := h.only (parL_spec d).2 hr (parL_length d) hn

/-- block i of a padded file -/
def blk (p : List UInt8) (i : Nat) : List UInt8 := tab (fun j => co p (8 * i + j)) 8
@[simp] theorem blk_length (p : List UInt8) (i : Nat) : (blk p i).length = 8 := by simp [blk]
theorem co_blk (p : List UInt8) (i j : Nat) (h : j < 8) : co (blk p i) j = co p (8 * i + j) := co_tab _ _ _ h
/-- block i of a list of blocks -/
def bi (bs : List (List UInt8)) (i : Nat) : List UInt8 := bs.getD i []
theorem bi_app (a b : List (List UInt8)) (i : Nat) : bi (a ++ b) i = if i < a.length then bi a i else bi b (i - a.length) := by
  unfold bi
  by_cases h : i < a.length
  · rw [if_pos h, List.getD_eq_getElem?_getD, List.getD_eq_getElem?_getD, List.getElem?_append_left h]
  · rw [if_neg h, List.getD_eq_getElem?_getD, List.getD_eq_getElem?_getD, List.getElem?_append_right (by omega)]
theorem bi_map (f : Nat → List UInt8) (n i : Nat) (h : i < n) : bi ((List.range n).map f) i = f i := by
  simp [bi, List.getD_eq_getElem?_getD, h]
theorem bi_take (a : List (List UInt8)) (n i : Nat) (h : i < n) : bi (a.take n) i = bi a i := by
  unfold bi
  rw [List.getD_eq_getElem?_getD, List.getD_eq_getElem?_getD, List.getElem?_take_of_lt h]
theorem bi_drop (a : List (List UInt8)) (n i : Nat) : bi (a.drop n) i = bi a (n + i) := by
  simp [bi, List.getD_eq_getElem?_getD]
theorem bi_ge (a : List (List UInt8)) (i : Nat) (h : a.length ≤ i) : bi a i = [] := by
  simp [bi, List.getD_eq_getElem?_getD, List.getElem?_eq_none h]
theorem bs_ext {a b : List (List UInt8)} (hl : a.length = b.length) (h : ∀ i, i < a.length → bi a i = bi b i) : a = b := by
  apply List.ext_getElem hl
  intro i h1 h2
  have := h i h1
  simpa [bi, List.getD_eq_getElem?_getD, h1, h2] using this
/-- byte j of each block -/
def colV (b : List UInt8) (j : Nat) : UInt8 := if b.length = 8 then co b j else 0
def colB (bs : List (List UInt8)) (j : Nat) : List UInt8 := bs.map fun b => colV b j
@[simp] theorem colB_length (bs : List (List UInt8)) (j : Nat) : (colB bs j).length = bs.length := by simp [colB]
theorem co_colB (bs : List (List UInt8)) (j i : Nat) (h : i < bs.length) : co (colB bs j) i = colV (bi bs i) j := by
  simp [co, colB, bi, List.getD_eq_getElem?_getD, h]
theorem colB_app (a b : List (List UInt8)) (j : Nat) : colB (a ++ b) j = colB a j ++ colB b j := by simp [colB]
/-- the data blocks from a on -/
def dat (p : List UInt8) (a k : Nat) : List (List UInt8) := (List.range k).map fun i => blk p (a + i)
@[simp] theorem dat_length (p : List UInt8) (a k : Nat) : (dat p a k).length = k := by simp [dat]
theorem bi_dat (p : List UInt8) (a k i : Nat) (h : i < k) : bi (dat p a k) i = blk p (a + i) := bi_map _ _ _ h
theorem dat_succ (p : List UInt8) (a k : Nat) : dat p a (k + 1) = dat p a k ++ [blk p (a + k)] := by simp [dat, List.range_succ]
theorem dat_app (p : List UInt8) (a k m : Nat) : dat p a (k + m) = dat p a k ++ dat p (a + k) m := by
  refine bs_ext (by simp) fun i hi => ?_
  rw [dat_length] at hi
  rw [bi_dat _ _ _ _ hi, bi_app, dat_length]
  split
  · rename_i h
    rw [bi_dat _ _ _ _ h]
  · rename_i h
    rw [bi_dat _ _ _ _ (by omega)]
    congr 1; omega
/-- the parity blocks of data blocks -/
def parB (D : List (List UInt8)) : List (List UInt8) := (List.range 32).map fun i => tab (fun j => co (parL (colB D j)) i) 8
@[simp] theorem parB_length (D : List (List UInt8)) : (parB D).length = 32 := by simp [parB]
theorem bi_parB (D : List (List UInt8)) (i : Nat) (h : i < 32) : bi (parB D) i = tab (fun j => co (parL (colB D j)) i) 8 := bi_map _ _ _ h
/-- the blocks of a group -/
def grpB (p : List UInt8) (a k : Nat) : List (List UInt8) := dat p a k ++ parB (dat p a k)
@[simp] theorem grpB_length (p : List UInt8) (a k : Nat) : (grpB p a k).length = k + 32 := by simp [grpB]
/-- the blocks of groups -/
def grps (p : List UInt8) : Nat → List Nat → List (List UInt8)
  | _, [] => []
  | a, k :: t => grpB p a k ++ grps p (a + k) t
theorem grps_app (p : List UInt8) (l m : List Nat) (a : Nat) : grps p a (l ++ m) = grps p a l ++ grps p (a + sumN l) m := by
  induction l generalizing a with
  | nil => simp [grps]
  | cons k l ih => simp [grps, ih, List.append_assoc, Nat.add_assoc]
theorem grps_snoc (p : List UInt8) (l : List Nat) (k a : Nat) : grps p a (l ++ [k]) = grps p a l ++ grpB p (a + sumN l) k := by
  rw [grps_app]; simp [grps]
theorem grps_length (p : List UInt8) (l : List Nat) (a : Nat) : (grps p a l).length = sumN l + 32 * l.length := by
  induction l generalizing a with
  | nil => simp [grps]
  | cons k l ih => simp [grps, ih]; omega
/-- all blocks of a file -/
def allB (f : List UInt8) : List (List UInt8) := grps (padL f) 0 (shp f.length)
/-- how many blocks -/
def totN (n : Nat) : Nat := n + 32 * (shpN n).length
theorem allB_length (f : List UInt8) : (allB f).length = totN (nbk f.length) := by
  unfold allB totN shp
  rw [grps_length, shpN_sum]
theorem totN_bd (n : Nat) (h : n ≤ 250) : totN n ≤ 314 := by
  have := shpN_le n
  unfold totN; omega
theorem grpB_eight (p : List UInt8) (a k : Nat) : ∀ b ∈ grpB p a k, b.length = 8 := by
  intro b hb
  rcases List.mem_append.1 hb with h | h
  · obtain ⟨i, _, rfl⟩ := List.mem_map.1 h
    exact blk_length _ _
  · obtain ⟨i, _, rfl⟩ := List.mem_map.1 h
    exact tab_length _ _
theorem grps_eight (p : List UInt8) (l : List Nat) (a : Nat) : ∀ b ∈ grps p a l, b.length = 8 := by
  induction l generalizing a with
  | nil => intro b hb; cases hb
  | cons k l ih =>
    intro b hb
    rcases List.mem_append.1 hb with h | h
    · exact grpB_eight _ _ _ b h
    · exact ih _ b h
/-- a column of a group is a code word -/
theorem grp_code (p : List UInt8) (a k j : Nat) (hj : j < 8) : IsCode (colB (grpB p a k) j) ∧ colB (grpB p a k) j = colB (dat p a k) j ++ parL (colB (dat p a k) j) := by
  have e : colB (parB (dat p a k)) j = parL (colB (dat p a k) j) := by
    refine list_ext (by simp) fun i hi => ?_
    have hi : i < 32 := by simpa using hi
    rw [co_colB _ _ _ (by simpa using hi), bi_parB _ _ hi]
    unfold colV
    rw [if_pos (tab_length _ _), co_tab _ _ _ hj]
  have e2 : colB (grpB p a k) j = colB (dat p a k) j ++ parL (colB (dat p a k) j) := by
    unfold grpB
    rw [colB_app, e]
  exact ⟨by rw [e2]; exact (parL_spec _).2, e2⟩
end Go.Proofs.YtomkkkbdipcjgaaDoor
