/- Mended blocks, plain: which blocks of a group are gone, the words that its columns are mended to, the file and the counts that come of them. -/
import Derived.Test.YtomkkkbdipcjgaaDoorSb
import Derived.Test.YtomkkkbdipcjgaaDoorFq
namespace Go.Proofs.YtomkkkbdipcjgaaDoor
set_option linter.unusedVariables false
set_option linter.unusedSimpArgs false
/-- the places of the first k blocks that have not eight bytes -/
def gnL (G : List (List UInt8)) : Nat → List Int
  | 0 => []
  | k + 1 => if (bi G k).length = 8 then gnL G k else gnL G k ++ [(k : Int)]
theorem gnL_length (G : List (List UInt8)) (k : Nat) : (gnL G k).length ≤ k := by
  induction k with
  | zero => simp [gnL]
  | succ k ih =>
    unfold gnL
    split
    · omega
    · simp; omega
theorem gnL_mem (G : List (List UInt8)) (k : Nat) (x : Int) : x ∈ gnL G k ↔ ∃ i : Nat, x = (i : Int) ∧ i < k ∧ (bi G i).length ≠ 8 := by
  induction k with
  | zero => simp [gnL]
  | succ k ih =>
    unfold gnL
    split
    · rename_i h
      rw [ih]
      exact ⟨fun ⟨i, h1, h2, h3⟩ => ⟨i, h1, by omega, h3⟩, fun ⟨i, h1, h2, h3⟩ => ⟨i, h1, by
        rcases Nat.lt_or_ge i k with h4 | h4
        · exact h4
        · exact absurd (by rw [show i = k by omega]; exact h) h3, h3⟩⟩
    · rename_i h
      rw [List.mem_append, ih, List.mem_singleton]
      constructor
      · rintro (⟨i, h1, h2, h3⟩ | h1)
        · exact ⟨i, h1, by omega, h3⟩
        · exact ⟨k, h1, by omega, h⟩
      · rintro ⟨i, h1, h2, h3⟩
        rcases Nat.lt_or_ge i k with h4 | h4
        · exact .inl ⟨i, h1, h4, h3⟩
        · exact .inr (by rw [h1]; congr 1; omega)
theorem gnL_nodup (G : List (List UInt8)) (k : Nat) : (gnL G k).Nodup := by
  induction k with
  | zero => simp [gnL]
  | succ k ih =>
    unfold gnL
    split
    · exact ih
    · rw [List.nodup_append]
      refine ⟨ih, by simp, fun a ha b hb => ?_⟩
      rw [List.mem_singleton] at hb
      obtain ⟨i, h1, h2, _⟩ := (gnL_mem G k a).1 ha
      omega
theorem gnL_ci (G : List (List UInt8)) (n k : Nat) (h : k < (gnL G n).length) : 0 ≤ ci (gnL G n) k ∧ ci (gnL G n) k < n := by
  have h1 : ci (gnL G n) k ∈ gnL G n := by
    unfold ci
    rw [List.getD_eq_getElem?_getD, List.getElem?_eq_getElem h]
    exact List.getElem_mem h
  obtain ⟨i, h2, h3, _⟩ := (gnL_mem G n _).1 h1
  omega
theorem gnL_eok (G : List (List UInt8)) (n : Nat) (h : (gnL G n).length ≤ 32) : EOk n (gnL G n) :=
  ⟨fun k hk => gnL_ci G n k hk, fun i j hj hi e => by
    unfold ci at e
    rw [List.getD_eq_getElem?_getD, List.getD_eq_getElem?_getD, List.getElem?_eq_getElem hi, List.getElem?_eq_getElem (by omega)] at e
    have := (List.getElem_inj (gnL_nodup G n)).1 (show (gnL G n)[i] = (gnL G n)[j] from e)
    omega, h⟩
/-- the columns of a group of n blocks are mended to the words vs -/
def Mnd (G : List (List UInt8)) (n : Nat) (vs : Nat → List UInt8) : Prop := ∀ j, j < 8 → ∃ H, Chg (vs j) (colB G j) n (gnL G n) H
theorem Mnd.uniq {G : List (List UInt8)} {n : Nat} {vs us : Nat → List UInt8} (h : Mnd G n vs) (k : Mnd G n us) (j : Nat) (hj : j < 8) : vs j = us j := by
  obtain ⟨H, h⟩ := h j hj
  obtain ⟨H', k⟩ := k j hj
  exact h.uniq k
theorem Mnd.len {G : List (List UInt8)} {n : Nat} {vs : Nat → List UInt8} (h : Mnd G n vs) (j : Nat) (hj : j < 8) : (vs j).length = n := by
  obtain ⟨H, h⟩ := h j hj
  exact h.lv
theorem Mnd.few {G : List (List UInt8)} {n : Nat} {vs : Nat → List UInt8} (h : Mnd G n vs) : (gnL G n).length ≤ 32 := by
  obtain ⟨H, h⟩ := h 0 (by omega)
  have := h.few
  omega
/-- the mended block i -/
def mbk (vs : Nat → List UInt8) (i : Nat) : List UInt8 := tab (fun j => co (vs j) i) 8
@[simp] theorem mbk_length (vs : Nat → List UInt8) (i : Nat) : (mbk vs i).length = 8 := by simp [mbk]
/-- the bytes of the first k mended blocks -/
def prt (vs : Nat → List UInt8) (k : Nat) : List UInt8 := tab (fun q => co (vs (q % 8)) (q / 8)) (8 * k)
@[simp] theorem prt_length (vs : Nat → List UInt8) (k : Nat) : (prt vs k).length = 8 * k := by simp [prt]
theorem prt_succ (vs : Nat → List UInt8) (k : Nat) : prt vs k ++ mbk vs k = prt vs (k + 1) := by
  refine list_ext (by simp; omega) fun q hq => ?_
  have hq : q < 8 * k + 8 := by simpa using hq
  rw [co_app, prt_length]
  unfold prt
  rw [co_tab _ _ _ (show q < 8 * (k + 1) by omega)]
  split
  · rename_i h
    rw [co_tab _ _ _ h]
  · rename_i h
    unfold mbk
    rw [co_tab _ _ _ (by omega), show (q - 8 * k) = q % 8 by omega, show q / 8 = k by omega]
theorem prt_congr {vs us : Nat → List UInt8} (k : Nat) (h : ∀ j, j < 8 → vs j = us j) : prt vs k = prt us k := by
  refine list_ext (by simp) fun q hq => ?_
  have hq : q < 8 * k := by simpa using hq
  unfold prt
  rw [co_tab _ _ _ hq, co_tab _ _ _ hq, h _ (Nat.mod_lt _ (by omega))]
/-- is block i changed by the mending -/
def hitB (G : List (List UInt8)) (vs : Nat → List UInt8) (i : Nat) : Bool := decide ((bi G i).length = 8) && decide (bi G i ≠ mbk vs i)
/-- how many of the first k are changed -/
def chN (G : List (List UInt8)) (vs : Nat → List UInt8) : Nat → Nat
  | 0 => 0
  | k + 1 => chN G vs k + if hitB G vs k = true then 1 else 0
theorem chN_le (G : List (List UInt8)) (vs : Nat → List UInt8) (k : Nat) : chN G vs k ≤ k := by
  induction k with
  | zero => simp [chN]
  | succ k ih => unfold chN; split <;> omega
theorem hitB_congr {G : List (List UInt8)} {vs us : Nat → List UInt8} (h : ∀ j, j < 8 → vs j = us j) (i : Nat) : hitB G vs i = hitB G us i := by
  have e : mbk vs i = mbk us i := list_ext (by simp) fun j hj => by
    have hj : j < 8 := by simpa using hj
    unfold mbk
    rw [co_tab _ _ _ hj, co_tab _ _ _ hj, h j hj]
  unfold hitB
  rw [e]
theorem chN_congr {G : List (List UInt8)} {vs us : Nat → List UInt8} (h : ∀ j, j < 8 → vs j = us j) (k : Nat) : chN G vs k = chN G us k := by
  induction k with
  | zero => rfl
  | succ k ih => unfold chN; rw [ih, hitB_congr h k]
/-- the blocks of group g -/
def grpG (bs : List (List UInt8)) (l : List Nat) (g : Nat) : List (List UInt8) := (bs.drop (atG l g)).take (szG l g + 32)
theorem grpG_length (bs : List (List UInt8)) (l : List Nat) (g : Nat) (h : g < l.length) (hb : bs.length = sumN l + 32 * l.length) : (grpG bs l g).length = szG l g + 32 := by
  have := atG_le l g h
  simp [grpG]; omega
theorem bi_grpG (bs : List (List UInt8)) (l : List Nat) (g i : Nat) (hi : i < szG l g + 32) : bi (grpG bs l g) i = bi bs (atG l g + i) := by
  unfold grpG
  rw [bi_take _ _ _ hi, bi_drop]
/-- the first g groups are mended to V -/
def MndAll (bs : List (List UInt8)) (l : List Nat) (V : Nat → Nat → List UInt8) (g : Nat) : Prop := ∀ h, h < g → Mnd (grpG bs l h) (szG l h + 32) (V h)
/-- the file of the first g groups -/
def fileG (l : List Nat) (V : Nat → Nat → List UInt8) : Nat → List UInt8
  | 0 => []
  | g + 1 => fileG l V g ++ prt (V g) (szG l g)
def erG (bs : List (List UInt8)) (l : List Nat) : Nat → List Int
  | 0 => []
  | g + 1 => erG bs l g ++ [((gnL (grpG bs l g) (szG l g + 32)).length : Int)]
def chG (bs : List (List UInt8)) (l : List Nat) (V : Nat → Nat → List UInt8) : Nat → List Int
  | 0 => []
  | g + 1 => chG bs l V g ++ [(chN (grpG bs l g) (V g) (szG l g + 32) : Int)]
theorem fileG_length (l : List Nat) (V : Nat → Nat → List UInt8) (g : Nat) (h : g ≤ l.length) : (fileG l V g).length = 8 * sumN (l.take g) := by
  induction g with
  | zero => simp [fileG]
  | succ g ih =>
    rw [sumN_take l g (by omega)]
    simp [fileG, ih (by omega)]
    omega
@[simp] theorem erG_length (bs : List (List UInt8)) (l : List Nat) (g : Nat) : (erG bs l g).length = g := by
  induction g with
  | zero => rfl
  | succ g ih => simp [erG, ih]
@[simp] theorem chG_length (bs : List (List UInt8)) (l : List Nat) (V : Nat → Nat → List UInt8) (g : Nat) : (chG bs l V g).length = g := by
  induction g with
  | zero => rfl
  | succ g ih => simp [chG, ih]
theorem MndAll.uniq {bs : List (List UInt8)} {l : List Nat} {V U : Nat → Nat → List UInt8} {g : Nat} (h : MndAll bs l V g) (k : MndAll bs l U g) : fileG l V g = fileG l U g ∧ chG bs l V g = chG bs l U g := by
  induction g with
  | zero => exact ⟨rfl, rfl⟩
  | succ g ih =>
    have h1 := ih (fun a ha => h a (by omega)) (fun a ha => k a (by omega))
    have h2 := (h g (by omega)).uniq (k g (by omega))
    unfold fileG chG
    rw [h1.1, h1.2, prt_congr _ h2, chN_congr h2]
    exact ⟨rfl, rfl⟩
theorem MndAll.congr {bs : List (List UInt8)} {l : List Nat} {V U : Nat → Nat → List UInt8} {g : Nat} (h : MndAll bs l V g) (e : ∀ a, a < g → V a = U a) : MndAll bs l U g := fun a ha => by rw [← e a ha]; exact h a ha
theorem fileG_congr (l : List Nat) {V U : Nat → Nat → List UInt8} {g : Nat} (e : ∀ a, a < g → V a = U a) : fileG l V g = fileG l U g := by
  induction g with
  | zero => rfl
  | succ g ih => unfold fileG; rw [ih (fun a ha => e a (by omega)), e g (by omega)]
theorem chG_congr (bs : List (List UInt8)) (l : List Nat) {V U : Nat → Nat → List UInt8} {g : Nat} (e : ∀ a, a < g → V a = U a) : chG bs l V g = chG bs l U g := by
  induction g with
  | zero => rfl
  | succ g ih => unfold chG; rw [ih (fun a ha => e a (by omega)), e g (by omega)]
end Go.Proofs.YtomkkkbdipcjgaaDoor
