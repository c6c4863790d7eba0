/- Growth, plain: the parts of a proof as the code goes over them; the proof is their roots, what it makes is made part by part. Growth's code: the parts that a proof goes over, and their iterator. Growth's Count, walked. Growth's Prove, walked. Growth's Frontier: slices.Clip, slices.Clone over digests; what a frontier is in memory; New, Size, Peaks, Of. Growth's Frontier: Root. Growth's Frontier: Add. Growth's Frontier: Add at the end; all that the laws ask of it; the chapter's example. Growth's made: both roots that a proof makes. Growth's Check; all that the laws ask of the code's proofs. -/
import Derived.Test.YtfccpfmgkpcnoaaDoorGx14
import Derived.Test.YtfccpfmgkpcnoaaDoorPkx
import Derived.Test.YtfccpfmgkpcnoaaDoorSx14
import Derived.Test.YtfccpfmgkpcnoaaDoorPop
import Derived.Maps.AppendAt
namespace Go.Proofs.YtfccpfmgkpcnoaaDoor.Da
set_option linter.unusedVariables false
set_option linter.unusedSimpArgs false
/-- the parts: from, to, and the side (0 own, 1 left, 2 right) -/
def ptt (f m n : Nat) (w : Bool) : List (Nat × Nat × Nat) :=
  if m = n then (if w then [] else [(f, f + n, 0)])
  else if h : n < 2 then []
  else if m ≤ spl n then ptt f m (spl n) w ++ [(f + spl n, f + n, 2)]
  else ptt (f + spl n) (m - spl n) (n - spl n) false ++ [(f, f + spl n, 1)]
termination_by n
decreasing_by
  all_goals
    have := spl_lt (n := n) (by omega)
    omega
theorem ptt_all (f n : Nat) (w : Bool) : ptt f n n w = if w then [] else [(f, f + n, 0)] := by rw [ptt, if_pos rfl]
theorem ptt_left {m n : Nat} (f : Nat) (w : Bool) (h : 1 ≤ m) (h1 : m < n) (k : m ≤ spl n) : ptt f m n w = ptt f m (spl n) w ++ [(f + spl n, f + n, 2)] := by rw [ptt, if_neg (by omega), dif_neg (by omega), if_pos k]
theorem ptt_right {m n : Nat} (f : Nat) (w : Bool) (h1 : m < n) (k : spl n < m) : ptt f m n w = ptt (f + spl n) (m - spl n) (n - spl n) false ++ [(f, f + spl n, 1)] := by rw [ptt, if_neg (by omega), dif_neg (by omega), if_neg (by omega)]
theorem ptt_length : ∀ (n f m : Nat) (w : Bool), 1 ≤ m → m ≤ n → (ptt f m n w).length = cnt m n w := by
  intro n
  induction n using Nat.strongRecOn with
  | ind n ih =>
    intro f m w h1 h2
    by_cases he : m = n
    · rw [he, ptt_all, cnt_all]; split <;> rfl
    obtain ⟨s1, s2, _⟩ := spl_lt (n := n) (by omega)
    by_cases k : m ≤ spl n
    · rw [ptt_left f w h1 (by omega) k, cnt_left w h1 (by omega) k, List.length_append, ih (spl n) s2 f m w h1 k, Nat.add_comm]
      rfl
    · rw [ptt_right f w (by omega) (by omega), cnt_right w (by omega) (by omega), List.length_append, ih (n - spl n) (by omega) _ (m - spl n) false (by omega) (by omega), Nat.add_comm]
      rfl
theorem ptt_in : ∀ (n f m : Nat) (w : Bool), 1 ≤ m → m ≤ n → ∀ t ∈ ptt f m n w, f ≤ t.1 ∧ t.1 < t.2.1 ∧ t.2.1 ≤ f + n ∧ t.2.2 ≤ 2 := by
  intro n
  induction n using Nat.strongRecOn with
  | ind n ih =>
    intro f m w h1 h2 t ht
    by_cases he : m = n
    · rw [he, ptt_all] at ht
      split at ht
      · cases ht
      · rw [List.mem_singleton] at ht
        subst ht
        exact ⟨Nat.le_refl _, by show f < f + n; omega, Nat.le_refl _, by show 0 ≤ 2; omega⟩
    obtain ⟨s1, s2, _⟩ := spl_lt (n := n) (by omega)
    by_cases k : m ≤ spl n
    · rw [ptt_left f w h1 (by omega) k] at ht
      rcases List.mem_append.1 ht with ht | ht
      · obtain ⟨i1, i2, i3, i4⟩ := ih (spl n) s2 f m w h1 k t ht
        exact ⟨i1, i2, by omega, i4⟩
      · rw [List.mem_singleton] at ht
        subst ht
        exact ⟨by show f ≤ f + spl n; omega, by show f + spl n < f + n; omega, Nat.le_refl _, Nat.le_refl _⟩
    · rw [ptt_right f w (by omega) (by omega)] at ht
      rcases List.mem_append.1 ht with ht | ht
      · obtain ⟨i1, i2, i3, i4⟩ := ih (n - spl n) (by omega) (f + spl n) (m - spl n) false (by omega) (by omega) t ht
        exact ⟨by omega, i2, by omega, i4⟩
      · rw [List.mem_singleton] at ht
        subst ht
        exact ⟨Nat.le_refl _, by show f < f + spl n; omega, by show f + spl n ≤ f + n; omega, by show 1 ≤ 2; omega⟩
/-- the root of a part's leaves -/
def pot (l : List (List UInt8)) (t : Nat × Nat × Nat) : List UInt8 := ov ((l.take t.2.1).drop t.1)
theorem pot_length {l : List (List UInt8)} (h : all32 l) (t : Nat × Nat × Nat) : (pot l t).length = 32 := ov_length ((h.take _).drop _)
theorem prf_ptt (l : List (List UInt8)) : ∀ (n f m : Nat) (w : Bool), 1 ≤ m → m ≤ n → f + n ≤ l.length → prf ((l.take (f + n)).drop f) m w = (ptt f m n w).map (pot l) := by
  intro n
  induction n using Nat.strongRecOn with
  | ind n ih =>
    intro f m w h1 h2 h3
    have hl : ((l.take (f + n)).drop f).length = n := by rw [List.length_drop, List.length_take]; omega
    by_cases he : m = n
    · subst he
      rw [ptt_all, prf_all w hl.symm]
      split <;> rfl
    obtain ⟨s1, s2, _⟩ := spl_lt (n := n) (by omega)
    by_cases k : m ≤ spl n
    · rw [prf_left w h1 (by omega) (by rw [hl]; exact k), ptt_left f w h1 (by omega) k, List.map_append, hl]
      congr 1
      · rw [← ih (spl n) s2 f m w h1 k (by omega), List.take_drop, List.take_take, Nat.min_eq_left (by omega)]
      · show [ov _] = [ov _]
        rw [List.drop_drop]
    · rw [prf_right w (by omega) (by rw [hl]; omega), ptt_right f w (by omega) (by omega), List.map_append, hl]
      congr 1
      · rw [← ih (n - spl n) (by omega) (f + spl n) (m - spl n) false (by omega) (by omega) (by omega), List.drop_drop, show f + spl n + (n - spl n) = f + n by omega]
      · show [ov _] = [ov _]
        rw [List.take_drop, List.take_take, Nat.min_eq_left (by omega)]
theorem prf_all_ptt (l : List (List UInt8)) (m : Nat) (h1 : 1 ≤ m) (h2 : m ≤ l.length) : prf l m true = (ptt 0 m l.length true).map (pot l) := by
  have := prf_ptt l l.length 0 m true h1 h2 (by omega)
  rwa [Nat.zero_add, List.take_length, List.drop_zero] at this
/-- what one digest of a proof makes of two roots -/
def gst (a : List UInt8 × List UInt8) (t : (Nat × Nat × Nat) × List UInt8) : List UInt8 × List UInt8 :=
  if t.1.2.2 = 0 then (t.2, t.2) else if t.1.2.2 = 1 then (nd t.2 a.1, nd t.2 a.2) else (a.1, nd a.2 t.2)
def gsf (old : List UInt8) (p : List (Nat × Nat × Nat)) (ps : List (List UInt8)) : List UInt8 × List UInt8 := (p.zip ps).foldl gst (old, old)
theorem zip_snoc' (p : List (Nat × Nat × Nat)) (x : Nat × Nat × Nat) : ∀ ps : List (List UInt8), p.length < ps.length → (p ++ [x]).zip ps = p.zip ps ++ [(x, bi ps p.length)] := by
  induction p with
  | nil =>
    intro ps h
    cases ps with
    | nil => cases h
    | cons d ps => rfl
  | cons y p ih =>
    intro ps h
    cases ps with
    | nil => cases h
    | cons d ps =>
      show (y, d) :: (p ++ [x]).zip ps = (y, d) :: (p.zip ps ++ [(x, bi (d :: ps) (p.length + 1))])
      rw [ih ps (by simpa using h)]
      rfl
theorem gsf_nil (old : List UInt8) (ps : List (List UInt8)) : gsf old [] ps = (old, old) := rfl
theorem gsf_snoc (old : List UInt8) (p : List (Nat × Nat × Nat)) (x : Nat × Nat × Nat) (ps : List (List UInt8)) (h : p.length < ps.length) : gsf old (p ++ [x]) ps = gst (gsf old p ps) (x, bi ps p.length) := by
  unfold gsf
  rw [zip_snoc' p x ps h, List.foldl_append]
  rfl
theorem zip_take' (p : List (Nat × Nat × Nat)) : ∀ ps : List (List UInt8), p.zip (ps.take p.length) = p.zip ps := by
  induction p with
  | nil => intro ps; rfl
  | cons y p ih =>
    intro ps
    cases ps with
    | nil => rfl
    | cons d ps =>
      show (y, d) :: p.zip (ps.take p.length) = (y, d) :: p.zip ps
      rw [ih]
theorem gsf_take (old : List UInt8) (p : List (Nat × Nat × Nat)) (ps : List (List UInt8)) (k : Nat) (h : k = p.length) : gsf old p (ps.take k) = gsf old p ps := by
  unfold gsf
  rw [h, zip_take']
theorem mde_gsf : ∀ (n f m : Nat) (old : List UInt8) (w : Bool) (ps : List (List UInt8)), 1 ≤ m → m ≤ n → ps.length = cnt m n w → gsf old (ptt f m n w) ps = mde m n old w ps := by
  intro n
  induction n using Nat.strongRecOn with
  | ind n ih =>
    intro f m old w ps h1 h2 hc
    by_cases he : m = n
    · subst he
      rw [ptt_all, mde_all]
      cases w with
      | true => rfl
      | false =>
        rw [cnt_all, if_neg (by decide)] at hc
        rw [if_neg (by decide), if_neg (by decide)]
        have := gsf_snoc old [] (f, f + m, 0) ps (by rw [hc]; decide)
        rw [List.nil_append] at this
        rw [this, gsf_nil]
        rfl
    obtain ⟨s1, s2, _⟩ := spl_lt (n := n) (by omega)
    by_cases k : m ≤ spl n
    · rw [cnt_left w h1 (by omega) k] at hc
      have hL := ptt_length (spl n) f m w h1 k
      rw [ptt_left f w h1 (by omega) k, mde_left old w ps h1 (by omega) k, gsf_snoc old _ _ ps (by omega), ← gsf_take old (ptt f m (spl n) w) ps (ps.length - 1) (by omega),
        ih (spl n) s2 f m old w (ps.take (ps.length - 1)) h1 k (by rw [List.length_take]; omega), hL, show cnt m (spl n) w = ps.length - 1 by omega]
      rfl
    · rw [cnt_right w (by omega) (by omega)] at hc
      have hL := ptt_length (n - spl n) (f + spl n) (m - spl n) false (by omega) (by omega)
      rw [ptt_right f w (by omega) (by omega), mde_right old w ps (by omega) (by omega), gsf_snoc old _ _ ps (by omega), ← gsf_take old (ptt (f + spl n) (m - spl n) (n - spl n) false) ps (ps.length - 1) (by omega),
        ih (n - spl n) (by omega) (f + spl n) (m - spl n) old false (ps.take (ps.length - 1)) (by omega) (by omega) (by rw [List.length_take]; omega), hL, show cnt (m - spl n) (n - spl n) false = ps.length - 1 by omega]
      rfl
theorem gst_len (a : List UInt8 × List UInt8) (t : (Nat × Nat × Nat) × List UInt8) (h : a.1.length = 32 ∧ a.2.length = 32) (ht : t.2.length = 32) : (gst a t).1.length = 32 ∧ (gst a t).2.length = 32 := by
  unfold gst
  split
  · exact ⟨ht, ht⟩
  split
  · exact ⟨nd_length _ _, nd_length _ _⟩
  · exact ⟨h.1, nd_length _ _⟩
theorem gst_foldl : ∀ (z : List ((Nat × Nat × Nat) × List UInt8)) (a : List UInt8 × List UInt8), (a.1.length = 32 ∧ a.2.length = 32) → (∀ t ∈ z, t.2.length = 32) → (z.foldl gst a).1.length = 32 ∧ (z.foldl gst a).2.length = 32
  | [], a, h, _ => h
  | t :: z, a, h, hz => gst_foldl z (gst a t) (gst_len a t h (hz t (by simp))) (fun u hu => hz u (List.mem_cons_of_mem _ hu))
theorem gsf_all32 {old : List UInt8} (ho : old.length = 32) (ps : List (List UInt8)) (hp : all32 ps) (p : List (Nat × Nat × Nat)) : (gsf old p ps).1.length = 32 ∧ (gsf old p ps).2.length = 32 :=
  gst_foldl _ _ ⟨ho, ho⟩ fun t ht => hp _ (List.of_mem_zip ht).2
theorem cnt_ten (n m : Nat) (h1 : 1 ≤ m) (h2 : m ≤ n) (h : n ≤ 512) : cnt m n true ≤ 20 := by
  have a := cnt_le n m true h1 h2
  have b := dpt_mono h
  have c : dpt 512 = 9 := dpt_only (by omega) (by decide) (by decide)
  omega
end Go.Proofs.YtfccpfmgkpcnoaaDoor.Da
namespace Go.Proofs.YtfccpfmgkpcnoaaDoor
open Go.RowKit
set_option linter.unusedVariables false
set_option linter.unusedSimpArgs false
attribute [local go_sem] Oper.semAt_some
/-- a part, as the code has it -/
def ptD (t : Nat × Nat × Nat) : Array Value := #[.int .i64 (t.1 : Int), .int .i64 (t.2.1 : Int), .int .i64 (t.2.2 : Int)]
def ptV (t : Nat × Nat × Nat) : Value := .agg (ptD t)
set_option maxHeartbeats 1000000 in
theorem gclimb_any (l : Nat) (J : List (Nat × Nat × Nat) → World → Prop) (Bx : World → Prop) (W : List (Nat × Nat × Nat))
    (hY : ∀ p x X, p ++ [x] <+: W → J p X → YieldAt Fence.wide 0 Tryd.prog l #[ptV x] X fun e X' => (e = .returned (.bool true) ∧ J (p ++ [x]) X') ∨ (e = .returned (.bool false) ∧ Bx X')) :
    ∀ (n f m T M : Nat) (v : Bool) (p : List (Nat × Nat × Nat)) (w : World), T = f + n → M = f + m → 1 ≤ m → m ≤ n → T ≤ 1000000 → v = decide (f = 0) → p ++ Da.ptt f m n v <+: W → J p w →
      Calls Tryd.prog 59 #[.int .i64 (f : Int), .int .i64 (T : Int), .int .i64 (M : Int), .func (.yield l) #[] #[]] w fun e X =>
        (e = .returned (.bool true) ∧ J (p ++ Da.ptt f m n v) X) ∨ (e = .returned (.bool false) ∧ Bx X) := by
  intro n
  induction n using Nat.strongRecOn with
  | ind n ih =>
    intro f m T M v p w hT hM hm1 hm hf hv hp hJ
    by_cases h : m = n
    · obtain rfl : M = T := by omega
      rw [h, Da.ptt_all] at hp ⊢
      have hd : decide ((M : Int) = (M : Int)) = true := decide_eq_true rfl
      by_cases h0 : f = 0
      · subst h0
        rw [if_pos (by rw [hv]; rfl), List.append_nil] at hp ⊢
        clear hp
        have HJ := Lib.hid hJ
        have HT := Lib.hid hT
        have HM := Lib.hid hM
        clear hJ hY ih hT hM hv h
        rw [show (((0 : Nat) : Int)) = 0 from rfl]
        refine (callsIn_wide (n := 0)).1 (callsIn_of_wp Tryd.func59 rfl trivial ?_ rfl)
        simp only [Tryd.ntmps59, List.size_toArray, List.length_cons, List.length_nil, Nat.reduceAdd, Nat.reduceSub, Array.replicate_succ, Array.replicate_zero, List.push_toArray, List.append_toArray, List.nil_append, List.cons_append]
        gi_wp2
        refine ⟨fun _ h => (by cases h), ?_⟩
        gi_wp2
        go_ret
        exact .inl ⟨rfl, HJ.out⟩
      · have hd2 : ((f : Int) == 0) = false := by rw [beq_eq_false_iff_ne]; omega
        have hvf : v = false := by rw [hv]; exact decide_eq_false h0
        rw [if_neg (by rw [hvf]; decide), ← hT] at hp ⊢
        have hy := hY p (f, M, 0) w hp hJ
        clear hp
        have HT := Lib.hid hT
        have HM := Lib.hid hM
        clear hJ hY ih hT hM hv h
        refine (callsIn_wide (n := 0)).1 (callsIn_of_wp Tryd.func59 rfl trivial ?_ rfl)
        simp only [Tryd.ntmps59, List.size_toArray, List.length_cons, List.length_nil, Nat.reduceAdd, Nat.reduceSub, Array.replicate_succ, Array.replicate_zero, List.push_toArray, List.append_toArray, List.nil_append, List.cons_append]
        obtain ⟨fn, tmps, assign, body, hy, hR⟩ := hy
        unfold ptV ptD at hy
        dsimp only at hy
        rw [show (((0 : Nat) : Int)) = 0 from rfl] at hy
        gi_wp2
        refine ⟨rfl, hR.mono ?_⟩
        rintro e W2 (⟨rfl, hJ2⟩ | ⟨rfl, hx⟩)
        · gi_wp2
          go_ret
          exact .inl ⟨rfl, hJ2⟩
        · gi_wp2
          go_ret
          exact .inr ⟨rfl, hx⟩
    have hd : ((M : Int) == (T : Int)) = false := by rw [beq_eq_false_iff_ne]; omega
    have hw1 : (T : Int) - (f : Int) = (n : Int) := by omega
    have SP := tsplit_any (n : Int) w (by omega) (by omega)
    rw [Int.toNat_natCast] at SP
    obtain ⟨s1, s2, _⟩ := Da.spl_lt (n := n) (by omega)
    obtain ⟨k, hk⟩ : ∃ k, Da.spl n = k := ⟨_, rfl⟩
    rw [hk] at SP s1 s2
    obtain ⟨K, hK⟩ : ∃ K, f + k = K := ⟨_, rfl⟩
    have hw2 : (f : Int) + (k : Int) = (K : Int) := by omega
    by_cases hik : m ≤ k
    · have ht := Da.ptt_left (n := n) (m := m) f v hm1 (by omega) (by rw [hk]; exact hik)
      rw [hk, hK, ← hT] at ht
      have hd2 : decide (M ≤ K) = true := decide_eq_true (by omega)
      rw [ht, ← List.append_assoc] at hp ⊢
      have hy2 := fun X hj => hY (p ++ Da.ptt f m k v) (K, T, 2) X hp hj
      have CH := (ih k s2 f m K M v p w hK.symm hM hm1 hik (by omega) hv ((List.prefix_append _ _).trans hp) hJ).mono (R' := fun e X => (e = .returned (.bool true) ∧ YieldAt Fence.wide 0 Tryd.prog l #[ptV (K, T, 2)] X fun e X' => (e = .returned (.bool true) ∧ J (p ++ Da.ptt f m k v ++ [(K, T, 2)]) X') ∨ (e = .returned (.bool false) ∧ Bx X')) ∨ (e = .returned (.bool false) ∧ Bx X))
        (fun e X h => h.imp (fun h => ⟨h.1, hy2 X h.2⟩) id)
      have HSP := Lib.hid SP
      have HCH := Lib.hid CH
      have HT := Lib.hid hT
      have HM := Lib.hid hM
      have HK := Lib.hid hK
      clear ih hY hy2 SP CH hp hJ ht hk hT hM hK hv h
      refine (callsIn_wide (n := 0)).1 (callsIn_of_wp Tryd.func59 rfl trivial ?_ rfl)
      simp only [Tryd.ntmps59, List.size_toArray, List.length_cons, List.length_nil, Nat.reduceAdd, Nat.reduceSub, Array.replicate_succ, Array.replicate_zero, List.push_toArray, List.append_toArray, List.nil_append, List.cons_append]
      gi_wp2
      refine ⟨trivial, rfl, ((callsIn_wide (n := 0)).2 HSP.out).mono ?_⟩
      rintro e w1 ⟨rfl, rfl⟩
      rename World => w
      gi_wp2
      refine ⟨trivial, rfl, ((callsIn_wide (n := 0)).2 HCH.out).mono ?_⟩
      rintro e W1 (⟨rfl, hy⟩ | ⟨rfl, hx⟩)
      · obtain ⟨fn, tmps, assign, body, hy, hR⟩ := hy
        unfold ptV ptD at hy
        dsimp only at hy
        rw [show (((2 : Nat) : Int)) = 2 from rfl] at hy
        gi_wp2
        refine ⟨rfl, hR.mono ?_⟩
        rintro e W2 (⟨rfl, hJ2⟩ | ⟨rfl, hx⟩)
        · gi_wp2
          go_ret
          exact .inl ⟨rfl, hJ2⟩
        · gi_wp2
          go_ret
          exact .inr ⟨rfl, hx⟩
      · gi_wp2
        refine ⟨fun _ h => (by cases h), ?_⟩
        gi_wp2
        go_ret
        exact .inr ⟨rfl, hx⟩
    · have ht := Da.ptt_right (n := n) (m := m) f v (by omega) (by rw [hk]; omega)
      rw [hk, hK] at ht
      have hd2 : decide (M ≤ K) = false := decide_eq_false (by omega)
      rw [ht, ← List.append_assoc] at hp ⊢
      have hy2 := fun X hj => hY (p ++ Da.ptt K (m - k) (n - k) false) (f, K, 1) X hp hj
      have CH := (ih (n - k) (by omega) K (m - k) T M false p w (by omega) (by omega) (by omega) (by omega) hf (by rw [decide_eq_false (by omega)]) ((List.prefix_append _ _).trans hp) hJ).mono (R' := fun e X => (e = .returned (.bool true) ∧ YieldAt Fence.wide 0 Tryd.prog l #[ptV (f, K, 1)] X fun e X' => (e = .returned (.bool true) ∧ J (p ++ Da.ptt K (m - k) (n - k) false ++ [(f, K, 1)]) X') ∨ (e = .returned (.bool false) ∧ Bx X')) ∨ (e = .returned (.bool false) ∧ Bx X))
        (fun e X h => h.imp (fun h => ⟨h.1, hy2 X h.2⟩) id)
      have HSP := Lib.hid SP
      have HCH := Lib.hid CH
      have HT := Lib.hid hT
      have HM := Lib.hid hM
      have HK := Lib.hid hK
      clear ih hY hy2 SP CH hp hJ ht hk hT hM hK hv h
      refine (callsIn_wide (n := 0)).1 (callsIn_of_wp Tryd.func59 rfl trivial ?_ rfl)
      simp only [Tryd.ntmps59, List.size_toArray, List.length_cons, List.length_nil, Nat.reduceAdd, Nat.reduceSub, Array.replicate_succ, Array.replicate_zero, List.push_toArray, List.append_toArray, List.nil_append, List.cons_append]
      gi_wp2
      refine ⟨trivial, rfl, ((callsIn_wide (n := 0)).2 HSP.out).mono ?_⟩
      rintro e w1 ⟨rfl, rfl⟩
      rename World => w
      gi_wp2
      refine ⟨trivial, rfl, ((callsIn_wide (n := 0)).2 HCH.out).mono ?_⟩
      rintro e W1 (⟨rfl, hy⟩ | ⟨rfl, hx⟩)
      · obtain ⟨fn, tmps, assign, body, hy, hR⟩ := hy
        unfold ptV ptD at hy
        dsimp only at hy
        rw [show (((1 : Nat) : Int)) = 1 from rfl] at hy
        gi_wp2
        refine ⟨rfl, hR.mono ?_⟩
        rintro e W2 (⟨rfl, hJ2⟩ | ⟨rfl, hx⟩)
        · gi_wp2
          go_ret
          exact .inl ⟨rfl, hJ2⟩
        · gi_wp2
          go_ret
          exact .inr ⟨rfl, hx⟩
      · gi_wp2
        refine ⟨fun _ h => (by cases h), ?_⟩
        gi_wp2
        go_ret
        exact .inr ⟨rfl, hx⟩
/-- the closure that parts makes -/
theorem mparts_any (m n : Int) (w : World) :
    Calls Tryd.prog 44 #[.int .i64 m, .int .i64 n] w fun e w' => e = .returned (.func (.func 58) #[] #[.pointer (some ⟨w.heap.size + 1, 0, none⟩), .pointer (some ⟨w.heap.size, 0, none⟩)]) ∧ w' = (w.alloc (.cells #[.int .i64 m] 3)).alloc (.cells #[.int .i64 n] 3) := by
  have hmf := @makes Tryd.prog
  go_enter Tryd.func44, Tryd.ntmps44
  go_wp2
  go_ret
  simp
/-- it gives the parts -/
theorem parts_seq (m n q1 q2 : Nat) (hm : 1 ≤ m) (hmn : m ≤ n) (hn : n ≤ 1000000) (l : Nat) (J : List (Nat × Nat × Nat) → World → Prop) (Bx : World → Prop)
    (hY : ∀ p x X, p ++ [x] <+: Da.ptt 0 m n true → J p X → YieldAt Fence.wide 0 Tryd.prog l #[ptV x] X fun e X' => (e = .returned (.bool true) ∧ J (p ++ [x]) X') ∨ (e = .returned (.bool false) ∧ Bx X')) (w : World)
    (h1 : Boxed w q1 3 (.int .i64 (m : Int))) (h2 : Boxed w q2 3 (.int .i64 (n : Int))) (hJ : J [] w) :
    Calls Tryd.prog 58 #[.func (.yield l) #[] #[], .pointer (some ⟨q2, 0, none⟩), .pointer (some ⟨q1, 0, none⟩)] w fun e X => (∃ v, e = .returned v) ∧ (J (Da.ptt 0 m n true) X ∨ Bx X) := by
  have CL := gclimb_any l J Bx (Da.ptt 0 m n true) hY n 0 m n m true [] w (by omega) (by omega) hm hmn hn rfl (by simp) hJ
  rw [List.nil_append, show (((0 : Nat) : Int)) = 0 from rfl] at CL
  have hc1 := h1.cell
  have hc2 := h2.cell
  have HCL := Lib.hid CL
  clear CL hY hJ h1 h2
  go_enter Tryd.func58, Tryd.ntmps58
  go_wp2_with fail
  refine HCL.out.mono ?_
  rintro e X (⟨rfl, h⟩ | ⟨rfl, h⟩)
  · go_wp2_with fail
    go_end0
    exact ⟨⟨_, rfl⟩, .inl h⟩
  · go_wp2_with fail
    go_end0
    exact ⟨⟨_, rfl⟩, .inr h⟩
end Go.Proofs.YtfccpfmgkpcnoaaDoor
namespace Go.Proofs.YtfccpfmgkpcnoaaDoor
open Go.RowKit
set_option linter.unusedVariables false
set_option linter.unusedSimpArgs false
attribute [local go_sem] Oper.semAt_some
/-- how many digests a proof has: the code's -/
theorem gcnt_bad (m n : Int) (h : ¬ (1 ≤ m ∧ m ≤ n ∧ n ≤ 512)) (w : World) :
    Calls Tryd.prog 25 #[.int .i64 m, .int .i64 n] w fun e w' => e = .returned (.int .i64 (-1)) ∧ w' = w := by
  by_cases h1 : m < 1
  · have hd1 : decide (m < 1) = true := decide_eq_true (by omega)
    refine Rf.calls_marks Tryd.func25 rfl ?_
    simp only [Tryd.ntmps25, List.size_toArray, List.length_cons, List.length_nil, Nat.reduceAdd, Nat.reduceSub, Array.replicate_succ, Array.replicate_zero, List.push_toArray, List.append_toArray, List.nil_append, List.cons_append]
    go_wp2_with fail
    exact ⟨_, results_tmp rfl _ _ _, rfl, rfl⟩
  have hd1 : decide (m < 1) = false := decide_eq_false (by omega)
  by_cases h2 : n < m
  · have hd2 : decide (m > n) = true := decide_eq_true (by omega)
    have hd3 : decide (n < m) = true := decide_eq_true (by omega)
    refine Rf.calls_marks Tryd.func25 rfl ?_
    simp only [Tryd.ntmps25, List.size_toArray, List.length_cons, List.length_nil, Nat.reduceAdd, Nat.reduceSub, Array.replicate_succ, Array.replicate_zero, List.push_toArray, List.append_toArray, List.nil_append, List.cons_append]
    go_wp2_with fail
    exact ⟨_, results_tmp rfl _ _ _, rfl, rfl⟩
  have hd2 : decide (m > n) = false := decide_eq_false (by omega)
  have hd3 : decide (n < m) = false := decide_eq_false (by omega)
  · have hd4 : decide (n > 512) = true := decide_eq_true (by omega)
    have hd5 : decide (512 < n) = true := decide_eq_true (by omega)
    refine Rf.calls_marks Tryd.func25 rfl ?_
    simp only [Tryd.ntmps25, List.size_toArray, List.length_cons, List.length_nil, Nat.reduceAdd, Nat.reduceSub, Array.replicate_succ, Array.replicate_zero, List.push_toArray, List.append_toArray, List.nil_append, List.cons_append]
    go_wp2_with fail
    exact ⟨_, results_tmp rfl _ _ _, rfl, rfl⟩
theorem gcnt_ok (m n : Nat) (hm1 : 1 ≤ m) (hmn : m ≤ n) (hn : n ≤ 512) (w : World) :
    Calls Tryd.prog 25 #[.int .i64 (m : Int), .int .i64 (n : Int)] w fun e w' => e = .returned (.int .i64 ((Da.cnt m n true : Nat) : Int)) ∧ Below w.heap.size w w' := by
  obtain ⟨g, hg⟩ : ∃ g, w.heap.size = g := ⟨_, rfl⟩
  obtain ⟨W1, hW1⟩ : ∃ W1, w.alloc (.cells #[.int .i64 0] 3) = W1 := ⟨_, rfl⟩
  have hb1 : Below w.heap.size w W1 := by rw [← hW1]; exact new12 _ _
  have hX1 : Boxed W1 g 3 (.int .i64 ((0 : Nat) : Int)) := by rw [← hW1, ← hg]; exact Boxed.new _ _ _
  have hs1 : W1.heap.size = g + 1 := by rw [← hW1, World.size_alloc, hg]
  obtain ⟨W2, hW2⟩ : ∃ W2, W1.alloc (.cells #[.int .i64 (m : Int)] 3) = W2 := ⟨_, rfl⟩
  obtain ⟨W3, hW3⟩ : ∃ W3, W2.alloc (.cells #[.int .i64 (n : Int)] 3) = W3 := ⟨_, rfl⟩
  have hb2 : Below W1.heap.size W1 W2 := by rw [← hW2]; exact new12 _ _
  have hb3 : Below W2.heap.size W2 W3 := by rw [← hW3]; exact new12 _ _
  have hX2 : Boxed W2 (g + 1) 3 (.int .i64 (m : Int)) := by rw [← hW2, ← hs1]; exact Boxed.new _ _ _
  have hs2 : W2.heap.size = g + 1 + 1 := by rw [← hW2, World.size_alloc, hs1]
  have hX3 : Boxed W3 (g + 1 + 1) 3 (.int .i64 (n : Int)) := by rw [← hW3, ← hs2]; exact Boxed.new _ _ _
  have MT := mparts_any (m : Int) (n : Int) W1
  rw [hW2, hW3, hs1] at MT
  have HB1 := Lib.hid hb1
  have HMT := Lib.hid MT
  have HW1 := Lib.hid hW1
  have HG := Lib.hid hg
  have HI0 : Hid (Boxed W3 g 3 (.int .i64 ((0 : Nat) : Int)) ∧ Boxed W3 (g + 1) 3 (.int .i64 (m : Int)) ∧ Boxed W3 (g + 1 + 1) 3 (.int .i64 (n : Int)) ∧ Below w.heap.size w W3) :=
    Lib.hid ⟨boxed_later (boxed_later hX1 hb2) hb3, boxed_later hX2 hb3, hX3, Kit.step (Kit.step hb1 hb2) hb3⟩
  have hd1 : decide ((m : Int) < 1) = false := decide_eq_false (by omega)
  have hd2 : decide ((m : Int) > (n : Int)) = false := decide_eq_false (by omega)
  have hd3 : decide (n < m) = false := decide_eq_false (by omega)
  have hd4 : decide ((n : Int) > 512) = false := decide_eq_false (by omega)
  have hd5 : decide (512 < (n : Int)) = false := decide_eq_false (by omega)
  have hlen := Da.ptt_length n 0 m true hm1 hmn
  have hle := Da.cnt_ten n m hm1 hmn hn
  obtain ⟨t, ht⟩ : ∃ t, Da.cnt m n true = t := ⟨_, rfl⟩
  rw [ht] at hlen hle ⊢
  have HLEN := Lib.hid hlen
  have HLE := Lib.hid hle
  have HM1 := Lib.hid hm1
  have HMN := Lib.hid hmn
  have HNN := Lib.hid hn
  clear hb1 hX1 hs1 hb2 hb3 hX2 hs2 hX3 MT hW1 hW2 hW3 hlen hle ht hg hm1 hmn hn
  refine Rf.calls_marks Tryd.func25 rfl ?_
  simp only [Tryd.ntmps25, List.size_toArray, List.length_cons, List.length_nil, Nat.reduceAdd, Nat.reduceSub, Array.replicate_succ, Array.replicate_zero, List.push_toArray, List.append_toArray, List.nil_append, List.cons_append]
  go_upto_region 4 with fail
  rw [HW1.out, HG.out]
  go_wp2_with fail
  refine HMT.out.mono ?_
  rintro e w3 ⟨rfl, rfl⟩
  rename World => W3
  go_wp2_with fail
  refine Rf.range_toldA (α := Nat × Nat × Nat) (σ := List (Nat × Nat × Nat)) rfl (enters_of Tryd.func58 (by kernel_rfl) rfl) (fun x => #[ptV x]) (fun _ => rfl)
    (fun p X => Boxed X g 3 (.int .i64 ((p.length : Nat) : Int)) ∧ Boxed X (g + 1) 3 (.int .i64 (m : Int)) ∧ Boxed X (g + 1 + 1) 3 (.int .i64 (n : Int)) ∧ Below w.heap.size w X)
    (fun c X => False)
    (fun p x p' X => p' = p ++ [x] ∧ p' <+: Da.ptt 0 m n true)
    [] (fun p => p = Da.ptt 0 m n true) ?hI ?hIx ?hV ?h0 ?hseq ?round ?done ?stop
  case hI => exact fun s X X' ⟨h1, h2, h3, h4⟩ k => ⟨boxed_nc12 h1 k, boxed_nc12 h2 k, boxed_nc12 h3 k, h4.trans (k.below HI0.out.2.2.2.size h4.size)⟩
  case hIx => exact fun c X X' h k => h
  case hV => exact fun s x s' X X' h k => h
  case h0 => exact HI0.out
  case hseq =>
    intro l B Bx X hnc hi2 hB hk ht
    refine (parts_seq m n (g + 1) (g + 1 + 1) HM1.out HMN.out (by have := HNN.out; omega) l (fun p X => (Boxed X g 3 (.int .i64 ((p.length : Nat) : Int)) ∧ Boxed X (g + 1) 3 (.int .i64 (m : Int)) ∧ Boxed X (g + 1 + 1) 3 (.int .i64 (n : Int)) ∧ Below w.heap.size w X) ∧ B X) Bx ?_ X hi2.2.1 hi2.2.2.1 ⟨hi2, hB⟩).mono ?_
    · exact fun p x Y hp hY => (ht p x (p ++ [x]) Y hY.1 hY.2 ⟨rfl, hp⟩).mono fun e X' h => h.imp (fun h => ⟨h.1, h.2.1, h.2.2⟩) (fun h => ⟨h.1, h.2⟩)
    · rintro e X' ⟨hv, (⟨h, hB⟩ | hx)⟩
      · exact ⟨hv, .inl ⟨_, rfl, h, hB⟩⟩
      · exact ⟨hv, .inr hx⟩
  case round =>
    rintro l p x p' X Z' To ⟨h1, h2, h3, h4⟩ ⟨rfl, hp⟩ hsz HN' HR' HE'
    have hpl := hp.length_le
    rw [List.length_append, List.length_singleton, HLEN.out] at hpl
    have HH := Lib.hid (show Boxed X g 3 (.int .i64 ((p.length : Nat) : Int)) ∧ Boxed X (g + 1) 3 (.int .i64 (m : Int)) ∧ Boxed X (g + 1 + 1) 3 (.int .i64 (n : Int)) ∧ Below w.heap.size w X from ⟨h1, h2, h3, h4⟩)
    obtain ⟨q, hq⟩ : ∃ q, p.length = q := ⟨_, rfl⟩
    have HQ := Lib.hid hq
    rw [hq] at hpl
    have hq9 : q ≤ 20 := by have := HLE.out; omega
    clear h1 h2 h3 h4 hq hpl hp
    gi_wp2
    refine ⟨Below.refl _ _, fun Y hY hnew hsy => ?_⟩
    obtain ⟨h1, h2, h3, h4⟩ := HH.out
    rw [HQ.out] at h1
    have k1 := boxed_later h1 hY
    have hc := k1.cell
    have hf := k1.frozen
    have HFI : Hid (KeepsOthers X (Y.setCell ⟨g, 0, none⟩ (.int .i64 ((q : Int) + 1))) ∧ Boxed (Y.setCell ⟨g, 0, none⟩ (.int .i64 ((q : Int) + 1))) g 3 (.int .i64 (((p ++ [x]).length : Nat) : Int)) ∧ Boxed (Y.setCell ⟨g, 0, none⟩ (.int .i64 ((q : Int) + 1))) (g + 1) 3 (.int .i64 (m : Int)) ∧ Boxed (Y.setCell ⟨g, 0, none⟩ (.int .i64 ((q : Int) + 1))) (g + 1 + 1) 3 (.int .i64 (n : Int)) ∧ Below w.heap.size w (Y.setCell ⟨g, 0, none⟩ (.int .i64 ((q : Int) + 1)))) := Lib.hid
      ⟨(keeps_below hY).trans (KeepsOthers.setCell _ _ _), by rw [List.length_append, HQ.out]; exact k1.set _, (boxed_later h2 hY).other (by omega) _, (boxed_later h3 hY).other (by omega) _,
        (Kit.step h4 hY).setCell (p := ⟨g, 0, none⟩) (Nat.le_of_eq HG.out) _⟩
    clear h1 h2 h3 h4 hY hnew hsy k1
    gi_wp2
    exact HN'.out _ _ HFI.out.1 HFI.out.2
  case done =>
    rintro D' p X hD' rfl ⟨h1, h2, h3, h4⟩ hK'
    rw [HLEN.out] at h1
    have hc := h1.cell
    have hk : Below w.heap.size X (X.putObj D' (.deferred none)) := belowK_b (w := w) (Nat.le_refl _) X D' _ _ (by have := HI0.out.2.2.2.size; omega) hK' rfl rfl
    have HBW := Lib.hid (h4.trans hk)
    clear h1 h2 h3 h4 hk
    go_wp2_with fail
    refine Rf.leaves hK' (results_tmp rfl _ _ _) ?_
    exact ⟨rfl, HBW.out⟩
  case stop => exact fun D c X hD h => h.elim
theorem gcount_any (m n : Int) (w : World) : Calls Tryd.prog 25 #[.int .i64 m, .int .i64 n] w fun e w' => e = .returned (.int .i64 (Da.gcn m n)) ∧ Below w.heap.size w w' := by
  unfold Da.gcn
  by_cases h : 1 ≤ m ∧ m ≤ n ∧ n ≤ 512
  · rw [if_pos h]
    obtain ⟨h1, h2, h3⟩ := h
    obtain ⟨m', rfl⟩ := Int.eq_ofNat_of_zero_le (show 0 ≤ m by omega)
    obtain ⟨n', rfl⟩ := Int.eq_ofNat_of_zero_le (show 0 ≤ n by omega)
    exact gcnt_ok m' n' (by omega) (by omega) (by omega) w
  · rw [if_neg h]
    exact (gcnt_bad m n h w).mono fun e w' h => ⟨h.1, by rw [h.2]; exact Below.refl _ _⟩
end Go.Proofs.YtfccpfmgkpcnoaaDoor
namespace Go.Proofs.YtfccpfmgkpcnoaaDoor
open Go.RowKit
set_option linter.unusedVariables false
set_option linter.unusedSimpArgs false
attribute [local go_sem] Oper.semAt_some
set_option maxRecDepth 100000 in
set_option maxHeartbeats 4000000 in
theorem gprove_any (ds : List (List UInt8)) (o : Option Addr) (n c m : Nat) (hdl : ds.length = n) (w : World) (hm1 : 1 ≤ m) (hmn : m ≤ n) (h5 : n ≤ 512) (hR : DgIs w o ds c) (hV : Cds w) :
    Calls Tryd.prog 23 #[.slice o n c, .int .i64 (m : Int)] w fun e w' => ∃ o' c', e = .returned (.tuple #[.slice o' (Da.cnt m n true) c', Value.nilIface]) ∧ DgIs w' o' (Da.prf ds m true) c' ∧ Below w.heap.size w w' := by
  obtain ⟨q, hq⟩ : ∃ q, w.heap.size = q := ⟨_, rfl⟩
  obtain ⟨W0, hW0⟩ : ∃ W0, w.alloc (.cells #[.slice o n c] 32) = W0 := ⟨_, rfl⟩
  have hb0 : Below w.heap.size w W0 := by rw [← hW0]; exact new12 _ _
  have hX0 : Boxed W0 q 32 (.slice o n c) := by rw [← hW0, ← hq]; exact Boxed.new _ _ _
  have hs0 : W0.heap.size = q + 1 := by rw [← hW0, World.size_alloc, hq]
  have PL := gcnt_ok m n hm1 hmn h5 W0
  have hle := Da.cnt_ten n m hm1 hmn h5
  have hlen := Da.ptt_length n 0 m true hm1 hmn
  have hpa := Da.prf_all_ptt ds m hm1 (by rw [hdl]; exact hmn)
  rw [hdl] at hpa
  have hin := fun t => Da.ptt_in n 0 m true hm1 hmn t
  obtain ⟨t, ht⟩ : ∃ t, Da.cnt m n true = t := ⟨_, rfl⟩
  rw [ht] at PL hle hlen ⊢
  have hall := hR.all
  have hclc := hR.le
  rw [hdl] at hclc
  have hclm := hR.cap
  unfold maxLen at hclm
  have HNE : Hid (∀ ad, o = some ad → ad.block < w.heap.size) := Lib.hid (by
    intro ad e
    obtain ⟨b, off, e2, hlt, _⟩ := hR.cells (by rw [hdl]; omega)
    rw [e] at e2
    cases e2
    exact hlt)
  have HPL := Lib.hid PL
  have HPA := Lib.hid hpa
  have HIN := Lib.hid hin
  have HLEN := Lib.hid hlen
  have HDL := Lib.hid hdl
  have HALL := Lib.hid hall
  have HR := Lib.hid hR
  have HV := Lib.hid hV
  have HM1 := Lib.hid hm1
  have HMN := Lib.hid hmn
  have HX0 := Lib.hid hX0
  have HB0 := Lib.hid hb0
  have HS0 := Lib.hid hs0
  have HW0 := Lib.hid hW0
  have HQ := Lib.hid hq
  have hd1 : decide ((t : Int) < 0) = false := decide_eq_false (by omega)
  obtain ⟨i0, hi0, hz0, hz1, hz2⟩ := dgI_parts dgI_code
  clear PL hpa hin hlen hall hR hV hm1 hmn hX0 hb0 hs0 hW0 hq ht
  refine Rf.calls_marks Tryd.func23 rfl ?_
  simp only [Tryd.ntmps23, List.size_toArray, List.length_cons, List.length_nil, Nat.reduceAdd, Nat.reduceSub, Array.replicate_succ, Array.replicate_zero, List.push_toArray, List.append_toArray, List.nil_append, List.cons_append]
  go_upto_region 1 with fail
  rw [HW0.out, HQ.out]
  have hc0 := HX0.out.cell
  go_wp2_with fail
  refine HPL.out.mono ?_
  rintro e W1 ⟨rfl, hb1⟩
  clear hc0
  have hB1 := Kit.step HB0.out hb1
  have hX1 := boxed_later HX0.out hb1
  obtain ⟨g, hg⟩ : ∃ g, W1.heap.size = g := ⟨_, rfl⟩
  have hqg : q < g := by have := hb1.size; have := HS0.out; omega
  obtain ⟨W2, hW2⟩ : ∃ W2, W1.alloc (.cells #[.slice none 0 0] 32) = W2 := ⟨_, rfl⟩
  have hb2 : Below W1.heap.size W1 W2 := by rw [← hW2]; exact new12 _ _
  have hX2 : Boxed W2 g 32 (.slice none 0 0) := by rw [← hW2, ← hg]; exact Boxed.new _ _ _
  have hs2 : W2.heap.size = g + 1 := by rw [← hW2, World.size_alloc, hg]
  have hXq2 := boxed_later hX1 hb2
  obtain ⟨W4, hW4⟩ : ∃ W4, W2.alloc (.cells #[.int .i64 (m : Int)] 3) = W4 := ⟨_, rfl⟩
  have hb4 : Below W2.heap.size W2 W4 := by rw [← hW4]; exact new12 _ _
  have hs4 : W4.heap.size = g + 1 + 1 := by rw [← hW4, World.size_alloc, hs2]
  have hX4 : Boxed W4 (g + 1) 3 (.int .i64 (m : Int)) := by rw [← hW4, ← hs2]; exact Boxed.new _ _ _
  obtain ⟨W5, hW5⟩ : ∃ W5, W4.alloc (.cells #[.int .i64 (n : Int)] 3) = W5 := ⟨_, rfl⟩
  have hb5 : Below W4.heap.size W4 W5 := by rw [← hW5]; exact new12 _ _
  have hs5 : W5.heap.size = g + 1 + 1 + 1 := by rw [← hW5, World.size_alloc, hs4]
  have hX5 : Boxed W5 (g + 1 + 1) 3 (.int .i64 (n : Int)) := by rw [← hW5, ← hs4]; exact Boxed.new _ _ _
  have MT := mparts_any (m : Int) (n : Int) W2
  rw [hW4, hW5, hs2] at MT
  have hb25 := Kit.step hb4 hb5
  have hb15 := Kit.step hb2 hb25
  have hB5 := Kit.step hB1 hb15
  have HQ5 : Hid (Boxed W5 q 32 (.slice o n c) ∧ Boxed W5 (g + 1) 3 (.int .i64 (m : Int)) ∧ Boxed W5 (g + 1 + 1) 3 (.int .i64 (n : Int)) ∧ DgIs W5 o ds c) :=
    Lib.hid ⟨boxed_later hXq2 hb25, boxed_later hX4 hb5, hX5, HR.out.later hB5⟩
  have hXg5 := boxed_later hX2 hb25
  have HI0 : Hid (MkI W5 g [] (.slice none 0 0) W5) := Lib.hid ⟨World.ownsRow_nil _ _ _ _, hXg5, Rf.Mut.refl _ _, hXg5.lt⟩
  have HV5 := Lib.hid (HV.out.later hB5)
  have HB5 := Lib.hid hB5
  have HW2 := Lib.hid hW2
  have HG := Lib.hid hg
  have HMT := Lib.hid MT
  have HS5 := Lib.hid hs5
  have HGQ := Lib.hid hqg
  have HGW : Hid (w.heap.size ≤ g) := Lib.hid (by have := HB0.out.size; have := hb1.size; omega)
  have hW5p : 0 < W5.heap.size := by omega
  have hc2 := hXq2.cell
  clear hb1 hB1 hX1 hg hW2 hb2 hX2 hs2 hW4 hb4 hs4 hX4 hW5 hb5 hs5 hX5 MT hb25 hb15 hB5 hXg5 hqg hXq2 HPL
  go_upto_region 4 with fail
  rw [HW2.out, HG.out]
  go_wp2_with fail
  refine HMT.out.mono ?_
  rintro e w5 ⟨rfl, rfl⟩
  rename World => W5
  clear HMT HW2 hc2
  go_wp2_with fail
  refine Rf.range_toldA (α := Nat × Nat × Nat) (σ := List (Nat × Nat × Nat)) rfl (enters_of Tryd.func58 (by kernel_rfl) rfl) (fun x => #[ptV x]) (fun _ => rfl)
    (fun p X => ∃ v, MkI W5 g (p.map (Da.pot ds)) v X)
    (fun c X => False)
    (fun p x p' X => p' = p ++ [x] ∧ p' <+: Da.ptt 0 m n true)
    [] (fun p => p = Da.ptt 0 m n true) ?hI ?hIx ?hV ?h0 ?hseq ?round ?done ?stop
  case hI => exact fun s X X' ⟨v, h⟩ k => ⟨v, h.nc k⟩
  case hIx => exact fun c X X' h k => h
  case hV => exact fun s x s' X X' h k => h
  case h0 => exact ⟨_, HI0.out⟩
  case hseq =>
    intro l B Bx X hnc hi2 hB hk ht
    obtain ⟨v, hi2⟩ := hi2
    have hq5 := HQ5.out
    have hgq := HGQ.out
    refine (parts_seq m n (g + 1) (g + 1 + 1) HM1.out HMN.out (by omega) l (fun p X => (∃ v, MkI W5 g (p.map (Da.pot ds)) v X) ∧ B X) Bx ?_ X (hi2.boxed hq5.2.1 (by omega)) (hi2.boxed hq5.2.2.1 (by omega)) ⟨⟨v, hi2⟩, hB⟩).mono ?_
    · exact fun p x Y hp hY => (ht p x (p ++ [x]) Y hY.1 hY.2 ⟨rfl, hp⟩).mono fun e X' h => h.imp (fun h => ⟨h.1, h.2.1, h.2.2⟩) (fun h => ⟨h.1, h.2⟩)
    · rintro e X' ⟨hv, (⟨h, hB⟩ | hx)⟩
      · exact ⟨hv, .inl ⟨_, rfl, h, hB⟩⟩
      · exact ⟨hv, .inr hx⟩
  case round =>
    rintro l p x p' X Z' To ⟨v, hI⟩ ⟨rfl, hp⟩ hsz HN' HR' HE'
    have hxin := HIN.out x (hp.subset (by simp))
    have hlen9 := hp.length_le
    rw [List.length_append, List.length_singleton, HLEN.out] at hlen9
    obtain ⟨tf, tt, tl⟩ := x
    dsimp only at hxin
    have HXO : Hid ((p ++ [(tf, tt, tl)]).map (Da.pot ds) = p.map (Da.pot ds) ++ [Da.pot ds (tf, tt, tl)]) := Lib.hid (by simp)
    have HPL : Hid ((p.map (Da.pot ds)).length = p.length) := Lib.hid (List.length_map _)
    have hel := Da.pot_length HALL.out (tf, tt, tl)
    have heq : Da.pot ds (tf, tt, tl) = Da.ov ((ds.drop tf).take (tt - tf)) := by unfold Da.pot; rw [List.drop_take]
    obtain ⟨e, he⟩ : ∃ e, Da.pot ds (tf, tt, tl) = e := ⟨_, rfl⟩
    rw [he] at HXO hel heq
    obtain ⟨E, hE⟩ : ∃ E, (bytesV e).toArray = E := ⟨_, rfl⟩
    have hEs : E.size = 32 := by rw [← hE]; simp [hel]
    obtain ⟨D, hD⟩ : ∃ D, ptD (tf, tt, tl) = D := ⟨_, rfl⟩
    have hDs : D.size = 3 := by rw [← hD]; rfl
    have HDS3 : Hid ((Tryd.prog.info? 83).map (·.size) = some D.size) := Lib.hid (by rw [hDs]; kernel_rfl)
    have HDO : Hid (D.all (·.oneCell') = true) := Lib.hid (by rw [← hD]; simp [ptD, Value.oneCell'])
    have HDZ : Hid ((#[.int .i64 0, .int .i64 0, .int .i64 0] : Array Value).size = D.size) := Lib.hid (by rw [hDs]; rfl)
    have HD := Lib.hid hD
    have HE := Lib.hid hE
    have HEL := Lib.hid hel
    have HEQ := Lib.hid heq
    have HESZ := Lib.hid hEs
    have HSZ := Lib.hid hsz
    have HII := Lib.hid hI
    have hpn : p.length ≤ 20 := by omega
    have hft : tf < tt := hxin.2.1
    have htn : tt ≤ n := by omega
    rw [show ptV (tf, tt, tl) = .agg D by unfold ptV; rw [hD]]
    clear hxin hlen9 hp hel heq he hE hEs hD hDs hsz hI
    gi_upto_region 5 with fail
    refine Rf.plain_round (by kernel_rfl) (by rintro ⟨a, w, h⟩; exact h) ?_
    (refine wpList_plain rfl (fun K hK => ?_); go_simp; refine hK _ _ ?_; clear hK K)
    refine wpList_store_row rfl 83 (.tmp 7) (.tmp 18) rfl Z'.heap.size D rfl rfl 83 #[.int .i64 0, .int .i64 0, .int .i64 0] (World.alloc_heap_new Z' _) HDS3.out HDZ.out HDO.out ?_
    refine wpList_nil ?_
    refine ⟨(new12 _ _).trans (below_row (Nat.le_refl _)), fun Y hY hnew hsy => ?_⟩
    rw [HSZ.out]
    obtain ⟨pt, hpt⟩ : ∃ pt, X.heap.size = pt := ⟨_, rfl⟩
    have hY8 : Y.heap[pt]? = some (.cells D 83 (0, 0)) := by
      rw [← hpt, hnew _ (Nat.le_refl _), ← HSZ.out]
      exact setRow_heap _ _ _ _ _ _ (World.alloc_heap_new Z' _)
    rw [hpt]
    have hJ := HII.out.later hY
    obtain ⟨hq5a, hq5b, hq5c, hdg5⟩ := HQ5.out
    have hgq := HGQ.out
    have hbq := hJ.boxed hq5a (by omega)
    have hbg := hJ.box
    have hdgY := hdg5.moved hJ.els (fun _ ad e => by have := HNE.out ad e; have := HGW.out; omega)
    have hBY := HB5.out.trans (hJ.els.below (n := w.heap.size) (fun k hk e => by have := HGW.out; omega) HB5.out.size)
    have hVY := HV.out.later hBY
    have hptY : pt < Y.heap.size := (Array.getElem?_eq_some_iff.1 hY8).1
    have hd0 : Y.cell? ⟨pt, 0, none⟩ = some (.int .i64 (tf : Int)) := by unfold World.cell?; rw [hY8, ← HD.out]; rfl
    have hd1' : Y.cell? ⟨pt, 1, none⟩ = some (.int .i64 (tt : Int)) := by unfold World.cell?; rw [hY8, ← HD.out]; rfl
    have hlg := hJ.lt
    have hszY := hJ.els.size
    obtain ⟨C, hC⟩ : ∃ C : World → Prop, (fun v : World => ∀ k, k = g ∨ k = q ∨ k = pt → v.heap[k]? = Y.heap[k]?) = C := ⟨_, rfl⟩
    have HC1 : Hid (∀ w, (∀ k, k = g ∨ k = q ∨ k = pt → w.heap[k]? = Y.heap[k]?) → C w) := Lib.hid fun w hw => by rw [← hC]; exact hw
    have HC2 : Hid (∀ w, C w → ∀ k, k = g ∨ k = q ∨ k = pt → w.heap[k]? = Y.heap[k]?) := Lib.hid fun w hw => by rw [← hC] at hw; exact hw
    have HG6 : Hid (∀ w, C w → w.cell? ⟨g, 0, none⟩ = some v) := Lib.hid fun w hw => by rw [World.cell?_of_block (HC2.out w hw g (.inl rfl))]; exact hbg.cell
    have HG7 : Hid (∀ w, C w → w.cell? ⟨q, 0, none⟩ = some (.slice o n c)) := Lib.hid fun w hw => by rw [World.cell?_of_block (HC2.out w hw q (.inr (.inl rfl)))]; exact hbq.cell
    have HT0 : Hid (∀ w, C w → w.cell? ⟨pt, 0, none⟩ = some (.int .i64 (tf : Int))) := Lib.hid fun w hw => by rw [World.cell?_of_block (a := ⟨pt, 0, none⟩) (HC2.out w hw pt (.inr (.inr rfl)))]; exact hd0
    have HT1 : Hid (∀ w, C w → w.cell? ⟨pt, 1, none⟩ = some (.int .i64 (tt : Int))) := Lib.hid fun w hw => by rw [World.cell?_of_block (a := ⟨pt, 1, none⟩) (HC2.out w hw pt (.inr (.inr rfl)))]; exact hd1'
    obtain ⟨b1, off1, rfl, hb1lt, _⟩ := hdgY.at_ tf (by rw [HDL.out]; omega)
    have hpart := hdgY.part tf (tt - tf) (by rw [HDL.out]; omega) (c - tf) (by omega) (by unfold maxLen; omega)
    have hdr : Below Y.heap.size Y Y.drew := Kit.dn' Y 1
    have OV := tover_any ((ds.drop tf).take (tt - tf)) _ (tt - tf) (c - tf) (by rw [List.length_take, List.length_drop, HDL.out]; omega) Y.drew (hpart.later hdr) (hVY.later hdr) (by rw [List.length_take, List.length_drop, HDL.out]; omega)
    rw [← HEQ.out, HE.out] at OV
    have hC0 : C Y.drew := HC1.out _ fun k hk => rfl
    have HJ := Lib.hid hJ
    have HOV := Lib.hid OV
    have HDR := Lib.hid hdr
    have HY := Lib.hid hY
    have HPT := Lib.hid hptY
    have HXP := Lib.hid hpt
    have hck : ¬ c = tf := by omega
    have hlt2 : ¬ tt < tf := by omega
    have htc : tt ≤ c := by omega
    clear hq5a hq5b hq5c hdg5 hgq hbq hbg hdgY hBY hVY hptY hd0 hd1' hlg hszY hC hb1lt hpart hdr OV hJ hY hnew hsy hY8 hpt
    gi_upto_region 6 with fail
    refine Rgt.round C (fun t => t == 10) (by kernel_rfl) (by kernel_rfl) (by rintro ⟨a, w, h⟩; exact h) ?_
    refine Rgt.take (i := 0) (x := v) rfl rfl (by kernel_rfl) (by kernel_rfl) (by kernel_rfl) (by kernel_rfl) (fun _ _ _ h => h) (Or.inl ⟨by kernel_rfl, fun w hw => by have hc := HG6.out w hw; (go_simp <;> with_reducible rfl)⟩) hC0 ?_
    go_simp
    refine Rgt.take (i := 1) (x := .slice (some ⟨b1, off1, none⟩) n c) rfl rfl (by kernel_rfl) (by kernel_rfl) (by kernel_rfl) (by kernel_rfl) (fun _ _ _ h => h) (Or.inl ⟨by kernel_rfl, fun w hw => by have hc := HG7.out w hw; (go_simp <;> with_reducible rfl)⟩) hC0 ?_
    go_simp
    refine Rgt.take (i := 2) (x := .pointer (some ⟨pt, 0, none⟩)) rfl rfl (by kernel_rfl) (by kernel_rfl) (by kernel_rfl) (by kernel_rfl) (fun _ _ _ h => h) (Or.inl ⟨by kernel_rfl, fun w hw => by (go_simp <;> with_reducible rfl)⟩) hC0 ?_
    go_simp
    refine Rgt.take (i := 3) (x := .int .i64 (tf : Int)) rfl rfl (by kernel_rfl) (by kernel_rfl) (by kernel_rfl) (by kernel_rfl) (fun _ _ _ h => h) (Or.inl ⟨by kernel_rfl, fun w hw => by have hc := HT0.out w hw; (go_simp <;> with_reducible rfl)⟩) hC0 ?_
    go_simp
    refine Rgt.take (i := 4) (x := .pointer (some ⟨pt, 1, none⟩)) rfl rfl (by kernel_rfl) (by kernel_rfl) (by kernel_rfl) (by kernel_rfl) (fun _ _ _ h => h) (Or.inl ⟨by kernel_rfl, fun w hw => by (go_simp <;> with_reducible rfl)⟩) hC0 ?_
    go_simp
    refine Rgt.take (i := 5) (x := .int .i64 (tt : Int)) rfl rfl (by kernel_rfl) (by kernel_rfl) (by kernel_rfl) (by kernel_rfl) (fun _ _ _ h => h) (Or.inl ⟨by kernel_rfl, fun w hw => by have hc := HT1.out w hw; (go_simp <;> with_reducible rfl)⟩) hC0 ?_
    go_simp
    refine Rgt.take (i := 6) (x := .slice (some ⟨b1, off1 + tf * 32, none⟩) (tt - tf) (c - tf)) rfl rfl (by kernel_rfl) (by kernel_rfl) (by kernel_rfl) (by kernel_rfl) (fun _ _ _ h => h) (Or.inl ⟨by kernel_rfl, fun w hw => by (go_simp <;> with_reducible rfl)⟩) hC0 ?_
    go_simp
    refine Rgt.ready (i := 7) (by kernel_rfl) rfl (by kernel_rfl) (fun K hK => ?_)
    go_simp
    refine HOV.out.mono ?_
    rintro e1 Y3 ⟨rfl, hb3⟩
    have hbY3 := Kit.step HDR.out hb3
    have hC3 : C Y3 := HC1.out _ fun k hk => hbY3.block k (by have := HPT.out; have := HJ.out.els.size; have := HJ.out.lt; have := HS5.out; have := HGQ.out; omega)
    refine hK _ _ hC3 ?_
    clear hK K HOV
    have hbs := dg_slice_run (tS := 32) Tryd.underlying32 dgI_code E HESZ.out Y3
    have hba := new12 Y3 (.cells E 41)
    have hrow : (Y3.alloc (.cells E 41)).rangeAt Y3.heap.size 0 (bytesV e) := by rw [← HE.out]; exact (Arr.made Y3 41 (bytesV e)).rng
    have hbY4 := Kit.step hbY3 hba
    have hJ4 := HJ.out.later hbY4
    obtain ⟨g2, cap2, Y5, hrun, hown2, hgr2, hat⟩ := dg_append_run (tS := 32) Tryd.underlying32 dgI_code 32 _ W5.heap.size v _ _ hJ4.own Y3.heap.size e HEL.out hrow (by rw [HPL.out]; omega) hJ4.els.size
    obtain ⟨hbx, hMk, hKO⟩ := HII.out.push (Kit.step HY.out hbY4) hown2 hgr2
    rw [HPL.out] at hrun hMk hKO
    rw [← HXO.out] at hMk
    have hC4 : C (Y3.alloc (.cells E 41)) := HC1.out _ fun k hk => hbY4.block k (by have := HPT.out; have := HJ.out.els.size; have := HJ.out.lt; have := HS5.out; have := HGQ.out; omega)
    have hC5 : C Y5 := HC1.out _ fun k hk => by
      have hk2 : k < Y.heap.size := by have := HPT.out; have := HJ.out.els.size; have := HJ.out.lt; have := HS5.out; have := HGQ.out; omega
      rw [hgr2.block k (Nat.lt_of_lt_of_le hk2 hbY4.size) ?_]
      · exact hbY4.block k hk2
      · rcases hk with rfl | rfl | rfl
        · exact hJ4.ne hJ4.lt
        · exact hJ4.ne (by have := HS5.out; have := HGQ.out; omega)
        · intro e2
          obtain ⟨_, cur, h2⟩ := own_blk HII.out.own _ e2.symm
          have := (Array.getElem?_eq_some_iff.1 h2).1
          have := HXP.out
          omega
    have hc3' := hbx.cell
    have hf3' := hbx.frozen
    have HRUN := Lib.hid hrun
    have HBS := Lib.hid hbs
    have HFI : Hid (KeepsOthers X (Y5.setCell ⟨g, 0, none⟩ (.slice (some ⟨g2, 0, none⟩) (p.length + 1) cap2)) ∧ ∃ v, MkI W5 g ((p ++ [(tf, tt, tl)]).map (Da.pot ds)) v (Y5.setCell ⟨g, 0, none⟩ (.slice (some ⟨g2, 0, none⟩) (p.length + 1) cap2))) := Lib.hid ⟨hKO, _, hMk⟩
    clear hb3 hbY3 hba hrow hbY4 hJ4 hrun hown2 hgr2 hat hbx hMk hKO hbs hC3
    refine Rgt.ready (i := 8) (by kernel_rfl) rfl (by kernel_rfl) (fun K hK => oper_slice 32 1 _ rfl #[(0, .agg E)] (by first | rfl | simp [Act.eval, Act.put]) _ _ HBS.out (hK _ _ hC4 ?_))
    clear hK K
    refine Rgt.ready (i := 9) (by kernel_rfl) rfl (by kernel_rfl) (fun K hK => oper_append (.tmp 19) (.tmp 27) 32 rfl _ _ rfl rfl _ _ HRUN.out (hK _ _ hC5 ?_))
    clear hK K
    go_simp
    refine Rgt.readyT (i := 10) (by kernel_rfl) rfl rfl (by kernel_rfl) (fun K hK => ?_)
    go_simp
    refine hK _ _ ?_
    clear hK K
    refine Rgt.done (by kernel_rfl) ?_ _
    exact HN'.out _ _ HFI.out.1 HFI.out.2
  case done =>
    rintro D' p X hD' rfl ⟨v, hI⟩ hK'
    have hown := hI.own
    rw [← HPA.out, show ((Da.prf ds m true).length) = t from (by rw [HPA.out, List.length_map, HLEN.out])] at hown
    have hc3 := hI.box.cell
    have hk : Below w.heap.size X (X.putObj D' (.deferred none)) := belowK_b (w := w) (Nat.le_refl _) X D' _ _ (by have := HB5.out.size; omega) hK' rfl rfl
    have hown2 : (X.putObj D' (.deferred none)).ownsRow W5.heap.size 41 32 v t (bytesV (Da.prf ds m true).flatten) := (Rf.NC.put (B := 0) (.deferred none) (Nat.zero_le _) hK' rfl).owns hown
    obtain ⟨hnn, o', c', rfl, hdg⟩ := own_dg hown2 (Da.prf_all32 n ds m true HDL.out HALL.out HM1.out HMN.out)
    clear hnn
    have HDG := Lib.hid hdg
    have HBW := Lib.hid ((HB5.out.trans (hI.els.below (n := w.heap.size) (fun k hk e => by have := HGW.out; omega) HB5.out.size)).trans hk)
    clear hown hk hown2 hdg hI
    go_wp2_with fail
    refine Rf.leaves hK' (results_tmp2 rfl _ _ _) ?_
    exact ⟨o', c', rfl, HDG.out, HBW.out⟩
  case stop => exact fun D c X hD h => h.elim
theorem gprove_bad (n c : Nat) (o : Option Addr) (m : Int) (hbad : ¬ (1 ≤ m ∧ m ≤ (n : Int) ∧ (n : Int) ≤ 512)) (A : Nat → Addr) (w : World) (hA : E13 w A) :
    Calls Tryd.prog 23 #[.slice o n c, .int .i64 m] w fun e w' => e = .returned (.tuple #[.slice none 0 0, errP A 1]) ∧ Below w.heap.size w w' := by
  obtain ⟨W0, hW0⟩ : ∃ W0, w.alloc (.cells #[.slice o n c] 32) = W0 := ⟨_, rfl⟩
  have hb0 : Below w.heap.size w W0 := by rw [← hW0]; exact new12 _ _
  have hX0 : Boxed W0 w.heap.size 32 (.slice o n c) := by rw [← hW0]; exact Boxed.new _ _ _
  have PL := gcnt_bad m (n : Int) hbad W0
  have hc := (hA.later hb0).c0
  have hc0 := hX0.cell
  have HPL := Lib.hid PL
  have HW0 := Lib.hid hW0
  have HB0 := Lib.hid hb0
  clear PL hA hbad hW0 hb0 hX0
  go_enter Tryd.func23, Tryd.ntmps23
  go_upto_region 1 with fail
  rw [HW0.out]
  go_wp2_with fail
  refine HPL.out.mono ?_
  rintro e w1 ⟨rfl, rfl⟩
  rename World => W1
  clear HPL
  have HBD := HB0
  go_upto_region 2 with fail
  go_quiet (fail)
  go_wp2_with fail
  go_ret2
  first | exact ⟨rfl, Kit.step HBD.out (Kit.dn' _ _)⟩ | exact ⟨rfl, HBD.out.drew⟩ | exact ⟨rfl, HBD.out⟩
end Go.Proofs.YtfccpfmgkpcnoaaDoor
namespace Go.Proofs.YtfccpfmgkpcnoaaDoor
open Go.RowKit
set_option linter.unusedVariables false
set_option linter.unusedSimpArgs false
theorem dclip_any (o : Option Addr) (n c : Nat) (hn : n ≤ c) (hc : c ≤ 9223372036854775807) (w : World) :
    Calls Tryd.prog 37 #[.slice o n c] w fun e w' => e = .returned (.slice o n n) ∧ w' = w := by
  go_enter Tryd.func37, Tryd.ntmps37
  cases o with
  | none =>
    go_wp2_with fail
    go_ret
    exact ⟨rfl, rfl⟩
  | some ad =>
    go_wp2_with fail
    go_ret
    exact ⟨rfl, rfl⟩
theorem own_new {T : TypeId} {W : World} {base n : Nat} {v : Value} {xs : List Value} (h : W.ownsRow base T 32 v n xs) (h0 : 0 < n) : ∃ g cap, v = .slice (some ⟨g, 0, none⟩) n cap ∧ base ≤ g := by
  rcases h.2 with ⟨_, h1⟩ | ⟨g, cap, cur, rfl, hg, _⟩
  · omega
  · exact ⟨g, cap, rfl, hg⟩
set_option maxRecDepth 100000 in
theorem dclone_any (ps : List (List UInt8)) (o : Option Addr) (c : Nat) (w : World) (hR : DgIs w o ps c) (hl : ps.length ≤ 1000) :
    Calls Tryd.prog 34 #[.slice o ps.length c] w fun e w' => ∃ o' c', e = .returned (.slice o' ps.length c') ∧ DgIs w' o' ps c' ∧ Below w.heap.size w w' ∧ (0 < ps.length → ∃ b off, o' = some ⟨b, off, none⟩ ∧ w.heap.size ≤ b) := by
  have q22 : ∀ (w : World) (a : Option Addr) (n c n' c' : Nat), (binOp .eql 32 (.slice a n c) (.slice none n' c')).run Tryd.prog w = .ok (.bool a.isNone) w := fun w a n c n' c' => Lib.run_eql_slice_nil w _ _ a n c n' c' Tryd.underlying32
  cases o with
  | none =>
    obtain ⟨rfl, rfl⟩ := hR.noaddr
    go_enter Tryd.func34, Tryd.ntmps34
    go_wp2_with fail
    go_ret
    exact ⟨none, 0, rfl, DgIs.empty none 0 (Nat.zero_le _) (fun _ => rfl), Below.refl _ _, fun h => by simp at h⟩
  | some ad =>
    have h1 := hR.le
    have h2 := hR.cap
    unfold maxLen at h2
    obtain ⟨i0, hi0, hz0, hz1, hz2⟩ := dgI_parts dgI_code
    have hb1 : Below w.heap.size w (w.alloc (.cells #[] 41)) := new12 _ _
    have HOWN : Hid ((w.alloc (.cells #[] 41)).ownsRow w.heap.size 41 32 (.slice (some ⟨w.heap.size, 0, none⟩) 0 0) 0 []) := Lib.hid
      ⟨rfl, .inr ⟨w.heap.size, 0, #[], rfl, Nat.le_refl _, World.alloc_heap_new w _, Nat.le_refl _, Nat.zero_le _, rfl, rfl⟩⟩
    have hnews : ∀ j u, (bytesV ps.flatten)[j]? = some u → (w.alloc (.cells #[] 41)).cell? (ad.add j) = some u := by
      intro j u hu
      have hlt := (List.getElem?_eq_some_iff.1 hu).1
      rw [bytesV_length, Da.flat_len hR.all] at hlt
      obtain ⟨b, off, e, hb, hc⟩ := (hR.later hb1).cells (by omega)
      cases e
      rw [Addr.add_mid]
      exact hc j u hu
    have HNEWS := Lib.hid hnews
    have hfl : (bytesV ps.flatten).length = ps.length * 32 := by rw [bytesV_length, Da.flat_len hR.all]
    have HFL := Lib.hid hfl
    have HALL := Lib.hid hR.all
    have HB1 := Lib.hid hb1
    clear hR hb1 hnews hfl
    go_enter Tryd.func34, Tryd.ntmps34
    go_wp2_with (at_builtin; refine wpList_append_own_at (P := Tryd.prog) _ rfl (.tmp 5) (.tmp 6) 32 rfl w.heap.size 41 i0 _ 32 32 Tryd.underlying32 hi0 hz0 hz1 hz2 (by simp [Value.cells]) (by decide) _ 0 [] rfl HOWN.out ad ps.length c (bytesV ps.flatten) rfl HFL.out HNEWS.out (bytesV_one _) (by unfold maxLen; omega) (by omega) HB1.out.size ?_)
    intro v2 w2 hv hgr hnil hat
    obtain ⟨hnn, o2, c2, rfl, hdg⟩ := own_dg hv HALL.out
    clear hnn
    have hnew : 0 < ps.length → ∃ b off, o2 = some ⟨b, off, none⟩ ∧ w.heap.size ≤ b := fun h0 => by
      obtain ⟨g, cap, e, hg⟩ := own_new hv h0
      cases e
      exact ⟨g, 0, rfl, hg⟩
    have hb2 : Below w.heap.size w w2 := by
      have hb := HB1.out
      refine ⟨hgr.os.trans hb.os, hgr.tape.trans hb.tape, hgr.output.trans hb.output, Nat.le_trans hb.size hgr.size, fun k hk => ?_⟩
      rw [hgr.block k (Nat.lt_of_lt_of_le hk hb.size) (fun e => by simp [Value.ownBlock] at e; omega), hb.block k hk]
    have HF := Lib.hid (And.intro hdg (And.intro hb2 hnew))
    clear hv hgr hnil hat hdg hnew hb2 HOWN HNEWS
    go_wp2_with fail
    go_ret
    exact ⟨o2, c2, rfl, HF.out.1, HF.out.2.1, HF.out.2.2⟩
/-- a frontier of n leaves in memory: in the blocks O -/
def FRd14 (O : Rf.Blk) (W : World) (v : Value) (n : Nat) (ps : List (List UInt8)) : Prop :=
  ∃ a o c, v = .pointer (some ⟨a, 0, none⟩) ∧ ps.length = Da.ones n ∧ n ≤ 1099511627776 ∧ W.heap[a]? = some (.cells #[.int .i64 (n : Int), .slice o ps.length c] 65 (0, 0)) ∧
    DgIs W o ps c ∧ O a ∧ (0 < ps.length → ∃ b off, o = some ⟨b, off, none⟩ ∧ O b ∧ b ≠ a) ∧ (∀ k, O k → k < W.heap.size)
theorem fr14_keep {O : Rf.Blk} {W W' : World} {v : Value} {n : Nat} {ps : List (List UInt8)} (h : FRd14 O W v n ps) (hs : W.heap.size ≤ W'.heap.size) (hk : ∀ k, O k → W'.heap[k]? = W.heap[k]?) : FRd14 O W' v n ps := by
  obtain ⟨a, o, c, e, h1, h2, h3, h4, h5, h6, h7⟩ := h
  refine ⟨a, o, c, e, h1, h2, by rw [hk a h5]; exact h3, ⟨h4.le, h4.cap, h4.nil, h4.all, fun h0 => ?_⟩, h5, h6, fun k hO => Nat.lt_of_lt_of_le (h7 k hO) hs⟩
  obtain ⟨b, off, e1, hb, hc⟩ := h4.cells h0
  obtain ⟨b', off', e2, hO, _⟩ := h6 h0
  rw [e1] at e2
  cases e2
  exact ⟨b, off, e1, Nat.lt_of_lt_of_le hb hs, fun j u hu => by rw [World.cell?_of_block (a := ⟨b, off + j, none⟩) (hk b hO)]; exact hc j u hu⟩
theorem fr14_ones {n : Nat} (h : n ≤ 1099511627776) : Da.ones n ≤ 64 := by
  rw [Da.ones_sd 64 n (by omega)]
  exact (show ∀ k y, Da.sd 2 k y ≤ k from fun k => by
    induction k with
    | zero => intro y; exact Nat.le_refl _
    | succ k ih => intro y; show y % 2 + Da.sd 2 k (y / 2) ≤ k + 1; have := ih (y / 2); omega) 64 n
theorem fr14_new (W : World) : Calls Tryd.prog 11 #[] W fun e w' => ∃ v O, e = .returned v ∧ FRd14 O w' v 0 [] ∧ Below W.heap.size W w' ∧ ∀ k, O k → W.heap.size ≤ k := by
  have h : FRd14 (fun k => k = W.heap.size) (W.alloc (.cells #[.int .i64 0, .slice none 0 0] 65)) (.pointer (some ⟨W.heap.size, 0, none⟩)) 0 [] :=
    ⟨W.heap.size, none, 0, rfl, by rw [Da.ones_zero]; rfl, Nat.zero_le _, World.alloc_heap_new W _, DgIs.empty none 0 (Nat.zero_le _) (fun _ => rfl), rfl, fun h => by simp at h, fun k hk => by rw [hk]; simp⟩
  have H := Lib.hid h
  clear h
  go_enter Tryd.func11, Tryd.ntmps11
  go_wp2_with fail
  go_ret
  exact ⟨_, _, rfl, H.out, new12 _ _, fun k hk => by rw [hk]; exact Nat.le_refl _⟩
theorem fr14_size {O : Rf.Blk} {W : World} {v : Value} {n : Nat} {ps : List (List UInt8)} (h : FRd14 O W v n ps) : Calls Tryd.prog 16 #[v] W fun e w' => e = .returned (.int .i64 (n : Int)) ∧ Below W.heap.size W w' := by
  obtain ⟨a, o, c, rfl, h1, h2, h3, h4, h5, h6, h7⟩ := h
  have hc : W.cell? ⟨a, 0, none⟩ = some (.int .i64 (n : Int)) := by unfold World.cell?; rw [h3]; rfl
  clear h1 h2 h3 h4 h5 h6 h7
  go_enter Tryd.func16, Tryd.ntmps16
  go_wp2_with fail
  go_ret
  exact ⟨rfl, Below.refl _ _⟩
theorem fr14_peaks {O : Rf.Blk} {W : World} {v : Value} {n : Nat} {ps : List (List UInt8)} (h : FRd14 O W v n ps) : Calls Tryd.prog 13 #[v] W fun e w' => ∃ o c, e = .returned (.slice o ps.length c) ∧ DgIs w' o ps c ∧ Below W.heap.size W w' := by
  obtain ⟨a, o, c, rfl, h1, h2, h3, h4, h5, h6, h7⟩ := h
  have hc : W.cell? ⟨a, 1, none⟩ = some (.slice o ps.length c) := by unfold World.cell?; rw [h3]; rfl
  have HCL := Lib.hid (dclone_any ps o c W h4 (by have := fr14_ones h2; omega))
  clear h1 h2 h3 h4 h5 h6 h7
  obtain ⟨k, hk⟩ : ∃ k, ps.length = k := ⟨_, rfl⟩
  rw [hk] at hc HCL ⊢
  clear hk
  go_enter Tryd.func13, Tryd.ntmps13
  go_wp2_with fail
  refine HCL.out.mono ?_
  rintro e W2 ⟨o2, c2, rfl, hd, hb, _⟩
  have HD := Lib.hid hd
  have HB := Lib.hid hb
  clear hd hb
  go_wp2_with fail
  go_ret
  exact ⟨o2, c2, rfl, HD.out, HB.out⟩
theorem fr14_of (W : World) (n : Nat) (ps : List (List UInt8)) (o : Option Addr) (c : Nat) (hR : DgIs W o ps c) (hl : ps.length = Da.ones n) (hn : n ≤ 1099511627776) :
    Calls Tryd.prog 12 #[.int .i64 (n : Int), .slice o ps.length c] W fun e w' => ∃ v O, e = .returned (.tuple #[v, .nilIface]) ∧ FRd14 O w' v n ps ∧ Below W.heap.size W w' ∧ ∀ k, O k → W.heap.size ≤ k := by
  have ON := ones_any n (by omega) W
  have CL := dclone_any ps o c W hR (by have := fr14_ones hn; omega)
  have h1 := hR.le
  have h2 := hR.cap
  have h9 := fr14_ones hn
  unfold maxLen at h2
  have hwr : IntKind.u64.wrap (n : Int) = (n : Int) := by rw [IntKind.wrap_u64]; omega
  have hd1 : decide ((n : Int) < 0) = false := decide_eq_false (by omega)
  have hd2 : decide ((n : Int) > 1099511627776) = false := decide_eq_false (by omega)
  have hd3 : decide ((1099511627776 : Int) < (n : Int)) = false := decide_eq_false (by omega)
  rw [← hl] at ON
  have HL := Lib.hid hl
  have HN := Lib.hid hn
  have HON := Lib.hid ON
  have HCL := Lib.hid CL
  obtain ⟨k, hk⟩ : ∃ k, ps.length = k := ⟨_, rfl⟩
  rw [hk] at HON HCL HL ⊢
  have HK := Lib.hid hk
  have hk64 : k ≤ 64 := by rw [HL.out]; exact h9
  clear ON CL hR h1 h2 h9 hl hn hk
  go_enter Tryd.func12, Tryd.ntmps12
  go_wp2_with fail
  refine HON.out.mono ?_
  rintro e w1 ⟨rfl, rfl⟩
  rename World => W
  go_wp2_with fail
  refine HCL.out.mono ?_
  rintro e W2 ⟨o2, c2, rfl, hd, hb, hnew⟩
  have hB3 : Below W2.heap.size W2 (W2.alloc (.cells #[.int .i64 (n : Int), .slice o2 k c2] 65)) := new12 _ _
  have hFR : FRd14 (fun j => W.heap.size ≤ j ∧ j < W2.heap.size + 1) (W2.alloc (.cells #[.int .i64 (n : Int), .slice o2 k c2] 65)) (.pointer (some ⟨W2.heap.size, 0, none⟩)) n ps := by
    refine ⟨W2.heap.size, o2, c2, rfl, by rw [HK.out]; exact HL.out, HN.out, by rw [HK.out]; exact World.alloc_heap_new W2 _, hd.later hB3, ⟨hb.size, by omega⟩, fun h0 => ?_, fun j hj => by rw [World.size_alloc]; exact hj.2⟩
    rw [HK.out] at h0
    obtain ⟨b, off, e1, hlt⟩ := hnew h0
    obtain ⟨b', off', e2, hb2, _⟩ := hd.cells (by rw [HK.out]; exact h0)
    rw [e1] at e2
    cases e2
    exact ⟨b, off, e1, ⟨hlt, by omega⟩, by omega⟩
  have HFR := Lib.hid hFR
  have HB := Lib.hid (Kit.step hb hB3)
  clear hd hb hnew hB3 hFR
  go_wp2_with fail
  go_ret2
  exact ⟨_, _, rfl, HFR.out, HB.out, fun j hj => hj.1⟩
theorem fr14_ofr (A : Nat → Addr) (W : World) (n : Int) (ps : List (List UInt8)) (o : Option Addr) (c : Nat) (hR : DgIs W o ps c) (hbad : ¬ (0 ≤ n ∧ n ≤ 1099511627776)) (hA : E13 W A) :
    Calls Tryd.prog 12 #[.int .i64 n, .slice o ps.length c] W fun e w' => e = .returned (.tuple #[.pointer none, errP A 1]) ∧ Below W.heap.size W w' := by
  have hc := hA.c0
  obtain ⟨k, hk⟩ : ∃ k, ps.length = k := ⟨_, rfl⟩
  rw [hk]
  clear hR hA hk
  by_cases h1 : n < 0
  · have hd1 : decide (n < 0) = true := decide_eq_true (by omega)
    go_enter Tryd.func12, Tryd.ntmps12
    go_upto_region 2 with fail
    go_quiet (fail)
    go_wp2_with fail
    go_ret2
    first | exact ⟨rfl, Kit.dn' _ _⟩ | exact ⟨rfl, (Below.refl _ _).drew⟩ | exact ⟨rfl, by assumption⟩
  · have hd1 : decide (n < 0) = false := decide_eq_false (by omega)
    have hd2 : decide (n > 1099511627776) = true := decide_eq_true (by omega)
    have hd3 : decide ((1099511627776 : Int) < n) = true := decide_eq_true (by omega)
    go_enter Tryd.func12, Tryd.ntmps12
    go_upto_region 2 with fail
    go_quiet (fail)
    go_wp2_with fail
    go_ret2
    first | exact ⟨rfl, Kit.dn' _ _⟩ | exact ⟨rfl, (Below.refl _ _).drew⟩ | exact ⟨rfl, by assumption⟩
theorem fr14_ofs (A : Nat → Addr) (W : World) (n : Nat) (ps : List (List UInt8)) (o : Option Addr) (c : Nat) (hR : DgIs W o ps c) (hn : n ≤ 1099511627776) (hne : ps.length ≠ Da.ones n) (hl : ps.length ≤ 1000) (hA : E13 W A) :
    Calls Tryd.prog 12 #[.int .i64 (n : Int), .slice o ps.length c] W fun e w' => e = .returned (.tuple #[.pointer none, errP A 8]) ∧ Below W.heap.size W w' := by
  have ON := ones_any n (by omega) W
  have hc := hA.c7
  have hwr : IntKind.u64.wrap (n : Int) = (n : Int) := by rw [IntKind.wrap_u64]; omega
  have hd1 : decide ((n : Int) < 0) = false := decide_eq_false (by omega)
  have hd2 : decide ((n : Int) > 1099511627776) = false := decide_eq_false (by omega)
  have hd3 : decide ((1099511627776 : Int) < (n : Int)) = false := decide_eq_false (by omega)
  have h9 := fr14_ones hn
  obtain ⟨k, hk⟩ : ∃ k, ps.length = k := ⟨_, rfl⟩
  obtain ⟨q, hq⟩ : ∃ q, Da.ones n = q := ⟨_, rfl⟩
  rw [hq] at ON hne h9
  rw [hk] at hne hl ⊢
  have hb1 : ((k : Int) == (q : Int)) = false := by rw [beq_eq_false_iff_ne]; omega
  have hb2 : ((k : Int) != (q : Int)) = true := by rw [bne_iff_ne]; omega
  have hb3 : (k == q) = false := by rw [beq_eq_false_iff_ne]; exact hne
  have HON := Lib.hid ON
  clear ON hR hA hk hq hn hne
  go_enter Tryd.func12, Tryd.ntmps12
  go_wp2_with fail
  refine HON.out.mono ?_
  rintro e w1 ⟨rfl, rfl⟩
  rename World => W
  go_upto_region 4 with fail
  go_quiet (fail)
  go_wp2_with fail
  go_ret2
  first | exact ⟨rfl, Kit.dn' _ _⟩ | exact ⟨rfl, (Below.refl _ _).drew⟩ | exact ⟨rfl, by assumption⟩
end Go.Proofs.YtfccpfmgkpcnoaaDoor
namespace Go.Proofs.YtfccpfmgkpcnoaaDoor
open Go.RowKit
set_option linter.unusedVariables false
set_option linter.unusedSimpArgs false
attribute [local go_sem] Oper.semAt_some
set_option maxRecDepth 100000 in
set_option maxHeartbeats 2000000 in
theorem fr14_root_of (Z : Array Value) (hZ : Z = (bytesV (List.replicate 32 0)).toArray) (hzs : ∀ w, Sem.run Tryd.prog (zeroValue 41) w = .ok (.agg Z) w)
    (ws : List (List UInt8)) (o : Option Addr) (n c a : Nat) (hn : ws.length = n) (w : World) (hfa : ∀ W', Below w.heap.size w W' → W'.cell? ⟨a, 1, none⟩ = some (.slice o n c)) (hR : DgIs w o ws c) (hV : Cds w) (hjl : (Da.jw ws).length = 32) :
    Calls Tryd.prog 19 #[.pointer (some ⟨a, 0, none⟩)] w fun e w' => e = .returned (.agg (bytesV (Da.jw ws)).toArray) ∧ Below w.heap.size w w' := by
  obtain ⟨g, hg⟩ : ∃ g, w.heap.size = g := ⟨_, rfl⟩
  obtain ⟨W1, hW1⟩ : ∃ W1, w.alloc (Obj.cells Z 41) = W1 := ⟨_, rfl⟩
  have hb1 : Below w.heap.size w W1 := by rw [← hW1]; exact new12 _ _
  have hs1 : W1.heap.size = g + 1 := by rw [← hW1, World.size_alloc, hg]
  have hA1 : Arr W1 g 41 (bytesV (List.replicate 32 0)) := by rw [← hW1, hZ, ← hg]; exact Arr.made _ _ _
  have hZs : Z.size = 32 := by rw [hZ]; simp
  obtain ⟨F, hF⟩ : ∃ F, (bytesV (Da.jw ws)).toArray = F := ⟨_, rfl⟩
  have hFs : F.size = 32 := by rw [← hF]; simp [hjl]
  have HFS : Hid ((Tryd.prog.info? 41).map (·.size) = some F.size) := Lib.hid (by rw [dg_info, hFs])
  have HFO : Hid (F.all (·.oneCell') = true) := Lib.hid (by rw [← hF]; exact all_oneCell_toArray (bytesV_one _))
  have HFZ : Hid ((bytesV (List.replicate 32 0)).toArray.size = F.size) := Lib.hid (by rw [hFs]; simp)
  have HZS := Lib.hid hZs
  have HF := Lib.hid hF
  have HR := Lib.hid hR
  have HV := Lib.hid hV
  have HW1 := Lib.hid hW1
  have HB1 := Lib.hid hb1
  have HS1 := Lib.hid hs1
  have HA1 := Lib.hid hA1
  have HG := Lib.hid hg
  have HZZ := Lib.hid hZ
  have HN := Lib.hid hn
  have hca := hR.cap
  have hcl := hR.le
  rw [hn] at hcl
  unfold maxLen at hca
  refine Rf.calls_marks Tryd.func19 rfl ?_
  simp only [Tryd.ntmps19, List.size_toArray, List.length_cons, List.length_nil, Nat.reduceAdd, Nat.reduceSub, Array.replicate_succ, Array.replicate_zero, List.push_toArray, List.append_toArray, List.nil_append, List.cons_append]
  have hcA := hfa W1 hb1
  have HFA := Lib.hid hfa
  clear hR hV hW1 hb1 hs1 hA1 hZ hF hFs hZs hg hn hjl hfa
  rw [HF.out]
  go_upto_region 1 with fail
  rw [HW1.out, HG.out]
  by_cases h0 : n = 0
  · subst h0
    obtain rfl : ws = [] := List.eq_nil_of_length_eq_zero HN.out
    have SO := tover_any [] none 0 0 rfl W1 (DgIs.empty none 0 (Nat.zero_le _) (fun _ => rfl)) (HV.out.later HB1.out) (by simp)
    rw [Da.ov_nil, show Da.sha [] = Da.jw [] from rfl, HF.out] at SO
    have HSO := Lib.hid SO
    clear SO
    go_upto_region 2 with fail
    apply wp_region_lit
    (refine wpList_plain rfl (fun K hK => ?_); go_simp)
    refine HSO.out.mono ?_
    rintro e W2 ⟨rfl, hb2⟩
    refine hK _ _ ?_
    clear hK K HSO
    have hA2 := HA1.out.later hb2 HA1.out.lt
    have HA2 : Hid (W2.heap[g]? = some (.cells (bytesV (List.replicate 32 0)).toArray 41 (0, 0))) := Lib.hid hA2
    have HGW : Hid ((W2.setRow g F).heap[g]? = some (.cells F 41 (0, 0))) := Lib.hid (setRow_heap _ _ _ _ _ _ hA2)
    have HBW : Hid (Below w.heap.size w (W2.setRow g F)) := Lib.hid ((Kit.step HB1.out hb2).trans (below_row (Nat.le_of_eq HG.out)))
    clear hA2 hb2
    refine wpList_store_row rfl 41 (.tmp 2) (.tmp 13) rfl g F rfl rfl 41 (bytesV (List.replicate 32 0)).toArray HA2.out HFS.out HFZ.out HFO.out ?_
    go_wp2_with fail
    refine ⟨_, results_cell_row rfl _ _ g 41 F (0, 0) _ rfl HGW.out dg_under rfl HFS.out, ?_⟩
    exact ⟨rfl, HBW.out⟩
  obtain ⟨m, rfl⟩ : ∃ m, n = m + 1 := ⟨n - 1, by omega⟩
  have hd1 : decide ((((m + 1 : Nat) : Int)) = 0) = false := by simp; omega
  have hw1 : IntKind.i64.wrap (((m + 1 : Nat) : Int) - 1) = (m : Int) := by rw [IntKind.wrap_i64]; omega
  have hR1 := HR.out.later HB1.out
  obtain ⟨b1, off1, rfl, hlt1, hrng⟩ := hR1.at_ m (by rw [HN.out]; omega)
  have hdl := hR1.all.at_ (i := m) (by rw [HN.out]; omega)
  obtain ⟨d, hd⟩ : ∃ d, bi ws m = d := ⟨_, rfl⟩
  rw [hd] at hrng hdl
  have HRS : Hid ((Tryd.prog.info? 41).map (·.size) = some (bytesV d).length) := Lib.hid (by rw [dg_info]; simp [hdl])
  obtain ⟨D, hD⟩ : ∃ D, (bytesV d).toArray = D := ⟨_, rfl⟩
  have HDS : Hid ((Tryd.prog.info? 41).map (·.size) = some D.size) := Lib.hid (by rw [dg_info, ← hD]; simp [hdl])
  have HDO : Hid (D.all (·.oneCell') = true) := Lib.hid (by rw [← hD]; exact all_oneCell_toArray (bytesV_one _))
  have HDZ : Hid (Z.size = D.size) := Lib.hid (by rw [HZS.out, ← hD]; simp [hdl])
  obtain ⟨W2, hW2⟩ : ∃ W2, W1.alloc (.cells Z 41) = W2 := ⟨_, rfl⟩
  obtain ⟨W3, hW3⟩ : ∃ W3, W2.setRow W1.heap.size D = W3 := ⟨_, rfl⟩
  have hA2 : Arr W2 W1.heap.size 41 Z.toList := by rw [← hW2]; exact Arr.made _ _ _
  have hA3 : Arr W3 W1.heap.size 41 (bytesV d) := by rw [← hW3, ← hD]; exact setRow_heap _ _ _ _ _ _ hA2
  have hb3 : Below W1.heap.size W1 W3 := by rw [← hW3, ← hW2]; exact (new12 _ _).trans (below_row (Nat.le_refl _))
  obtain ⟨W4, hW4⟩ : ∃ W4, W3.alloc (.cells #[.slice (some ⟨b1, off1, none⟩) m c] 32) = W4 := ⟨_, rfl⟩
  have hb4 : Below W3.heap.size W3 W4 := by rw [← hW4]; exact new12 _ _
  have hX4 : Boxed W4 W3.heap.size 32 (.slice (some ⟨b1, off1, none⟩) m c) := by rw [← hW4]; exact Boxed.new _ _ _
  have hs3 : W3.heap.size = g + 1 + 1 := by rw [← hW3, setRow_size, ← hW2, World.size_alloc, HS1.out]
  have hA4 : Arr W4 W1.heap.size 41 (bytesV d) := hA3.later hb4 hA3.lt
  have hG4 : Arr W4 g 41 (bytesV (List.replicate 32 0)) := (HA1.out.later hb3 HA1.out.lt).later hb4 (Nat.lt_of_lt_of_le HA1.out.lt hb3.size)
  have hB4 : Below w.heap.size w W4 := Kit.step (Kit.step HB1.out hb3) hb4
  obtain ⟨us, hus⟩ : ∃ us, ws.take m = us := ⟨_, rfl⟩
  have hul : us.length = m := by rw [← hus, List.length_take, HN.out]; omega
  have hU : DgIs w (some ⟨b1, off1, none⟩) us c := by
    have := HR.out.part 0 m (by rw [HN.out]; omega) c (by omega) (by unfold maxLen; omega)
    rwa [Nat.zero_mul, Nat.add_zero, List.drop_zero, hus] at this
  have hJ : Da.jf us d m = Da.jw ws := by
    have := Da.jf_all ws (by rw [HN.out]; omega)
    rw [HN.out, show m + 1 - 1 = m by omega, hus, hd] at this
    exact this
  rw [HS1.out] at hA2 hA3 hA4 hW3
  rw [hs3] at hX4
  have MB := Lib.hid (mback_any (some ⟨b1, off1, none⟩) m c W3)
  rw [hs3, hW4] at MB
  have HRNG := Lib.hid hrng
  have HD := Lib.hid hD
  have HA2 : Hid (W2.heap[g + 1]? = some (.cells Z 41 (0, 0))) := Lib.hid hA2
  have HW2 := Lib.hid hW2
  have HW3 := Lib.hid hW3
  have HJ := Lib.hid hJ
  have HUL := Lib.hid hul
  have HU := Lib.hid hU
  have HDL := Lib.hid hdl
  have hcB := HFA.out W3 (Kit.step HB1.out hb3)
  have HI0 : Hid (JnI us d (some ⟨b1, off1, none⟩) c g (g + 1) (g + 1 + 1) w 0 W4) := Lib.hid ⟨Nat.zero_le _, by rw [Da.jf_zero]; exact hA4, hG4, by rw [hul]; exact hX4, hB4⟩
  have hlt9 : (m : Int) < (m : Int) + 1 := by omega
  clear hrng hd hD hA2 hA3 hb3 hb4 hX4 hs3 hA4 hG4 hB4 hus hul hU hJ hW2 hW3 hW4 hR1 hlt1 hdl
  go_upto_region 4 with fail
  apply wp_region_lit
  (refine wpList_plain rfl (fun K hK => ?_); go_simp; refine hK _ _ ?_; clear hK K)
  (refine wpList_plain rfl (fun K hK => ?_); go_simp; refine hK _ _ ?_; clear hK K)
  (refine wpList_plain rfl (fun K hK => ?_); go_simp; refine hK _ _ ?_; clear hK K)
  (refine wpList_plain rfl (fun K hK => ?_); go_simp; refine hK _ _ ?_; clear hK K)
  (refine wpList_plain rfl (fun K hK => ?_); go_simp; refine hK _ _ ?_; clear hK K)
  (refine wpList_plain rfl (fun K hK => ?_); go_simp; refine hK _ _ ?_; clear hK K)
  refine wpList_load_mid rfl 41 (.tmp 25) rfl b1 (off1 + m * 32) rfl (bytesV d) _ HRNG.out dg_under rfl HRS.out ?_
  rw [HD.out]
  (refine wpList_plain rfl (fun K hK => ?_); go_simp; refine hK _ _ ?_; clear hK K)
  rw [HW2.out, HS1.out]
  refine wpList_store_row rfl 41 (.tmp 4) (.tmp 26) rfl (g + 1) D rfl rfl 41 Z HA2.out HDS.out HDZ.out HDO.out ?_
  rw [HW3.out]
  go_wp2_with fail
  refine MB.out.mono ?_
  rintro e w4 ⟨rfl, rfl⟩
  rename World => W4
  clear MB HRNG HW2 HW3 HA2 HRS
  go_wp2_with fail
  refine Rf.range_toldA (α := Nat × List UInt8) (σ := Nat) rfl (enters_of Tryd.func54 (by kernel_rfl) rfl) (fun x => #[.int .i64 x.1, .agg (bytesV x.2).toArray]) (fun _ => rfl)
    (JnI us d (some ⟨b1, off1, none⟩) c g (g + 1) (g + 1 + 1) w)
    (fun c X => False)
    (fun s x s' X => s' = s + 1 ∧ s < m ∧ x = (m - 1 - s, bi us (m - 1 - s)))
    0 (fun s => s = m) ?hI ?hIx ?hV ?h0 ?hseq ?round ?done ?stop
  case hI => exact fun s X X' h k => h.nc k HI0.out.below.size
  case hIx => exact fun c X X' h k => h
  case hV => exact fun s x s' X X' h k => h
  case h0 => exact HI0.out
  case hseq =>
    intro l B Bx X hnc hi hB hk ht
    have := backs_any us (some ⟨b1, off1, none⟩) c (g + 1 + 1) l (JnI us d (some ⟨b1, off1, none⟩) c g (g + 1) (g + 1 + 1) w) B Bx X ?_ ?_ hk ?_ hi hB
    · refine this.mono ?_
      rintro e X' ⟨hv, (⟨h, hB⟩ | hx)⟩
      · exact ⟨hv, .inl ⟨us.length, HUL.out, h, hB⟩⟩
      · exact ⟨hv, .inr hx⟩
    · exact fun i X h => ⟨h.box, HU.out.later h.below⟩
    · exact fun i X X' h hb => h.later hb
    · intro i X h hB hlt
      rw [HUL.out] at hlt ⊢
      exact (ht i (m - 1 - i, bi us (m - 1 - i)) (i + 1) X h hB ⟨rfl, hlt, rfl⟩).mono fun e X' h => h.imp (fun h => ⟨h.1, h.2.1, h.2.2⟩) id
  case round =>
    rintro l s x s' X Z' To hI ⟨rfl, hlt, rfl⟩ hsz HN' HR' HE'
    have hmi : m - 1 - s < us.length := by rw [HUL.out]; omega
    have hel := HU.out.all.at_ hmi
    have hst := Da.jf_step us d s (by rw [HUL.out]; exact hlt)
    rw [HUL.out] at hst
    have hcl2 := Da.jf_length (us := us) HDL.out s (by rw [HUL.out]; omega)
    have hgl := Da.jf_length (us := us) HDL.out (s + 1) (by rw [HUL.out]; omega)
    obtain ⟨e, he⟩ : ∃ e, bi us (m - 1 - s) = e := ⟨_, rfl⟩
    rw [he] at hel hst
    rw [he]
    have NO := Lib.hid (fun (v : World) (hv : Cds v) => tnode_any e (Da.jf us d s) hel hcl2 v hv)
    rw [← hst] at NO
    obtain ⟨E, hE⟩ : ∃ E, (bytesV e).toArray = E := ⟨_, rfl⟩
    obtain ⟨C, hC⟩ : ∃ C, (bytesV (Da.jf us d s)).toArray = C := ⟨_, rfl⟩
    obtain ⟨G, hG⟩ : ∃ G, (bytesV (Da.jf us d (s + 1))).toArray = G := ⟨_, rfl⟩
    rw [hE, hC, hG] at NO
    have HES : Hid ((Tryd.prog.info? 41).map (·.size) = some E.size) := Lib.hid (by rw [dg_info, ← hE]; simp [hel])
    have HEO : Hid (E.all (·.oneCell') = true) := Lib.hid (by rw [← hE]; exact all_oneCell_toArray (bytesV_one _))
    have HEZ : Hid (Z.size = E.size) := Lib.hid (by rw [HZS.out, ← hE]; simp [hel])
    have HCS : Hid ((Tryd.prog.info? 41).map (·.size) = some C.size) := Lib.hid (by rw [dg_info, ← hC]; simp [hcl2])
    have HGS : Hid ((Tryd.prog.info? 41).map (·.size) = some G.size) := Lib.hid (by rw [dg_info, ← hG]; simp [hgl])
    have HGO : Hid (G.all (·.oneCell') = true) := Lib.hid (by rw [← hG]; exact all_oneCell_toArray (bytesV_one _))
    have HGZ : Hid (C.size = G.size) := Lib.hid (by rw [← hC, ← hG]; simp [hcl2, hgl])
    have HE := Lib.hid hE
    have HC := Lib.hid hC
    have HG2 := Lib.hid hG
    have HSZ := Lib.hid hsz
    have HII := Lib.hid hI
    rw [hE]
    clear hmi hel hst hcl2 hgl he hE hC hG hsz hI
    gi_upto_region 6 with fail
    refine Rf.plain_round (by kernel_rfl) (by rintro ⟨a, w, h⟩; exact h) ?_
    (refine wpList_plain rfl (fun K hK => ?_); go_simp; refine hK _ _ ?_; clear hK K)
    refine wpList_store_row rfl 41 (.tmp 6) (.tmp 35) rfl Z'.heap.size E rfl rfl 41 Z (World.alloc_heap_new Z' _) HES.out HEZ.out HEO.out ?_
    refine wpList_nil ?_
    refine ⟨(new12 _ _).trans (below_row (Nat.le_refl _)), fun Y hY hnew hsy => ?_⟩
    have hY6 : Y.heap[X.heap.size]? = some (.cells E 41 (0, 0)) := by
      rw [hnew _ (Nat.le_refl _), ← HSZ.out]
      exact setRow_heap _ _ _ _ _ _ (World.alloc_heap_new Z' _)
    have hJ := HII.out.later hY
    have hcur : Y.heap[g + 1]? = some (.cells C 41 (0, 0)) := by rw [← HC.out]; exact hJ.cur
    have HNO := Lib.hid (NO.out Y (HV.out.later hJ.below))
    have HJJ := Lib.hid hJ
    have HY := Lib.hid hY
    have HY6 := Lib.hid hY6
    have HCUR := Lib.hid hcur
    rw [HSZ.out]
    clear hY hnew hsy hY6 hJ hcur
    gi_upto_region 7 with fail
    refine Rf.plain_round (by kernel_rfl) (by rintro ⟨a, w, h⟩; exact h) ?_
    refine wpList_load_row rfl 41 (.tmp 6) rfl X.heap.size rfl 41 E (0, 0) _ HY6.out dg_under rfl HES.out ?_
    refine wpList_load_row rfl 41 (.tmp 4) rfl (g + 1) rfl 41 C (0, 0) _ HCUR.out dg_under rfl HCS.out ?_
    (refine wpList_plain rfl (fun K hK => ?_); go_simp)
    refine HNO.out.mono ?_
    rintro e' Y2 ⟨rfl, hb2⟩
    refine hK _ _ ?_
    clear hK K HNO
    have hJ2 := HJJ.out.later hb2
    have hc2 : Y2.heap[g + 1]? = some (.cells C 41 (0, 0)) := by rw [← HC.out]; exact hJ2.cur
    have HC2 := Lib.hid hc2
    have HFI : Hid (KeepsOthers X (Y2.setRow (g + 1) G) ∧ JnI us d (some ⟨b1, off1, none⟩) c g (g + 1) (g + 1 + 1) w (s + 1) (Y2.setRow (g + 1) G)) := Lib.hid ⟨(keeps_below HY.out).trans ((keeps_below hb2).trans (keeps_row hc2)),
      ⟨by rw [HUL.out]; omega, by rw [← HG2.out]; exact hJ2.cur.row_same, hJ2.res.row_ne (by omega), boxed_row_ne hJ2.box (by omega), hJ2.below.trans (below_row (by have := HG.out; omega))⟩⟩
    clear hb2 hJ2 hc2
    refine wpList_store_row rfl 41 (.tmp 4) (.tmp 38) rfl (g + 1) G rfl rfl 41 C HC2.out HGS.out HGZ.out HGO.out ?_
    refine wpList_nil ?_
    exact HN'.out _ _ HFI.out.1 HFI.out.2
  case done =>
    rintro D' s X hD' hs hI hK'
    rw [hs] at hI
    have hcur : X.heap[g + 1]? = some (.cells F 41 (0, 0)) := by
      have := hI.cur
      rw [HJ.out] at this
      unfold Arr at this
      rw [HF.out] at this
      exact this
    have hres := hI.res
    have hne : D' ≠ g := fun e => by
      subst e
      rw [show X.heap[D']? = _ from hres] at hK'
      cases hK'
    have hK2 : (X.setRow g F).heap[D']? = some (.deferred (some [])) := by rw [setRow_other X g D' F hne]; exact hK'
    have HK2 := Lib.hid hK2
    have hg2 : ((X.setRow g F).putObj D' (.deferred none)).heap[g]? = some (.cells F 41 (0, 0)) := by
      rw [World.putObj_heap_other (by omega)]
      exact setRow_heap _ _ _ _ _ _ hres
    have HG2 := Lib.hid hg2
    have HBW : Hid (Below w.heap.size w ((X.setRow g F).putObj D' (.deferred none))) := Lib.hid
      ((hI.below.trans (below_row (Nat.le_of_eq HG.out))).trans (belowK_b (w := w) (Nat.le_refl _) (X.setRow g F) D' _ _ (by have := HI0.out.below.size; omega) hK2 rfl rfl))
    have HCUR := Lib.hid hcur
    have HRES : Hid (X.heap[g]? = some (.cells (bytesV (List.replicate 32 0)).toArray 41 (0, 0))) := Lib.hid hres
    clear hcur hres hne hK2 hg2 hI hK'
    go_upto_region 8 with fail
    apply wp_region_lit
    refine wpList_load_row rfl 41 (.tmp 4) rfl (g + 1) rfl 41 F (0, 0) _ HCUR.out dg_under rfl HFS.out ?_
    refine wpList_store_row rfl 41 (.tmp 2) (.tmp 39) rfl g F rfl rfl 41 (bytesV (List.replicate 32 0)).toArray HRES.out HFS.out HFZ.out HFO.out ?_
    go_wp2_with fail
    refine Rf.leaves HK2.out (results_cell_row rfl _ _ g 41 F (0, 0) _ rfl HG2.out dg_under rfl HFS.out) ?_
    exact ⟨rfl, HBW.out⟩
  case stop => exact fun D c X hD h => h.elim
theorem fr14_root {O : Rf.Blk} {W : World} {v : Value} {n : Nat} {ps : List (List UInt8)} (h : FRd14 O W v n ps) (hV : Cds W) : Calls Tryd.prog 19 #[v] W fun e w' => e = .returned (.agg (bytesV (Da.rtp ps)).toArray) ∧ Below W.heap.size W w' := by
  obtain ⟨a, o, c, rfl, h1, h2, h3, h4, h5, h6, h7⟩ := h
  have hjl : (Da.jw ps).length = 32 := by
    by_cases h0 : 0 < ps.length
    · rw [← Da.jf_all ps h0]
      exact Da.jf_length (h4.all.at_ (i := ps.length - 1) (by omega)) _ (by rw [List.length_take]; omega)
    · obtain rfl : ps = [] := List.eq_nil_of_length_eq_zero (by omega)
      exact Da.sha_length _
  exact fr14_root_of _ rfl dg_zero ps o ps.length c a rfl W (fun W' hb => by
    have hc : W.cell? ⟨a, 1, none⟩ = some (.slice o ps.length c) := by unfold World.cell?; rw [h3]; rfl
    rw [hb.cell (p := ⟨a, 1, none⟩) (h7 a h5)]; exact hc) h4 hV hjl
end Go.Proofs.YtfccpfmgkpcnoaaDoor
namespace Go.Proofs.YtfccpfmgkpcnoaaDoor
open Go.RowKit
set_option linter.unusedVariables false
set_option linter.unusedSimpArgs false
/-- append of one digest to a row that has no room -/
theorem dg_append_clip {T tS : TypeId} (hS : Tryd.prog.underlying tS = some (.slice T)) (hT : dgI T) (ty : TypeId) (w : World) (ps : List (List UInt8)) (o : Option Addr) (n : Nat) (hn : ps.length = n) (h : DgIs w o ps n)
    (b : Nat) (d : List UInt8) (hd : d.length = 32) (hr : w.rangeAt b 0 (bytesV d)) (hl : n ≤ 1000) :
    ∃ cap w', (Builtin.append_ #[tS, tS] ty #[.slice o n n, .slice (some ⟨b, 0, none⟩) 1 1]).run Tryd.prog w = .ok (.slice (some ⟨w.heap.size, 0, none⟩) (n + 1) cap) w' ∧ DgIs w' (some ⟨w.heap.size, 0, none⟩) (ps ++ [d]) cap ∧ Below w.heap.size w w' := by
  obtain ⟨i, hi, hz, hs, hb⟩ := dgI_parts hT
  have hnews : ∀ j u, (bytesV d)[j]? = some u → w.cell? ((⟨b, 0, none⟩ : Addr).add j) = some u := fun j u hu => by rw [Addr.add_mid]; exact hr j u hu
  have fin : ∀ (old : Nat) (W' : World), old < n + 1 → W' = (w.drew.alloc (.cells ((bytesV ps.flatten).toArray ++ (bytesV d).toArray ++ Builtin.zeroCells (Value.agg (bytesV (List.replicate 32 0)).toArray).cells (grownCap w (n + 1) old T - (n + 1))) T)) →
      DgIs W' (some ⟨w.heap.size, 0, none⟩) (ps ++ [d]) (grownCap w (n + 1) old T) ∧ Below w.heap.size w W' := by
    rintro old W' ho rfl
    have hge := grownCap_ge w (n + 1) old T
    have hcm : grownCap w (n + 1) old T ≤ maxLen := grownCap_le_maxLen w (n + 1) old T (by unfold maxLen; omega)
    refine ⟨⟨by rw [List.length_append, hn]; exact hge, hcm, (fun e => by cases e), h.all.app (Da.all32.one hd), fun _ => ⟨w.heap.size, 0, rfl, by simp, fun j u hu => ?_⟩⟩, ⟨rfl, rfl, rfl, by simp, fun k hk => Below.heap_alloc w.drew _ k hk⟩⟩
    have hnew : (w.drew.alloc (.cells ((bytesV ps.flatten).toArray ++ (bytesV d).toArray ++ Builtin.zeroCells (Value.agg (bytesV (List.replicate 32 0)).toArray).cells (grownCap w (n + 1) old T - (n + 1))) T)).heap[w.heap.size]? = some _ := World.alloc_heap_new w.drew _
    rw [Nat.zero_add, cell_of_row _ _ _ _ _ _ hnew]
    rw [List.flatten_append, bytesV_app, show ([d] : List (List UInt8)).flatten = d by simp] at hu
    have hj := (List.getElem?_eq_some_iff.1 hu).1
    rw [Array.getElem?_append_left (by simpa using hj)]
    simpa using hu
  cases o with
  | none =>
    obtain ⟨h0, rfl⟩ := h.noaddr
    subst h0
    have hrun := run_append_nil (P := Tryd.prog) w tS ty T i _ hS hi hz ⟨b, 0, none⟩ 1 1 (bytesV d) (by rw [hs]; simp [hd]) hnews (by omega) (by omega) (by rw [hb]; omega)
    exact ⟨_, _, hrun, fin 0 _ (by omega) (by simp [bytesV])⟩
  | some ad =>
    have holds : ∀ j v, (bytesV ps.flatten)[j]? = some v → w.cell? (ad.add j) = some v := fun j u hu => by
      have hlt := (List.getElem?_eq_some_iff.1 hu).1
      rw [bytesV_length, Da.flat_len h.all] at hlt
      obtain ⟨b, off, e, hb, hc⟩ := h.cells (by omega)
      cases e
      rw [Addr.add_mid]
      exact hc j u hu
    have hrun := run_append_grow (P := Tryd.prog) w tS ty T i _ hS hi hz ad n n (bytesV ps.flatten) (by rw [hs, bytesV_length, Da.flat_len h.all, hn]) holds ⟨b, 0, none⟩ 1 1 (bytesV d) (by rw [hs]; simp [hd]) hnews (by omega) (by omega) (growslice_fits (by omega) (by rw [hb]; omega))
    exact ⟨_, _, hrun, fin n _ (by omega) rfl⟩
/-- between two rounds of Add -/
def AdI14 (W : World) (ps : List (List UInt8)) (T : List (List UInt8)) (N : Nat) (op : Option Addr) (cp g : Nat) (rv lv : Value) (wr : World) : Prop :=
  ∃ (L : Nat) (qs : List (List UInt8)) (d : List UInt8), rv = .slice op qs.length cp ∧ lv = .int .i64 (L : Int) ∧ L ≤ N ∧ DgIs W op qs cp ∧ qs.length = Da.ones L ∧ d.length = 32 ∧ Da.psh L qs d = T ∧ Arr wr g 41 (bytesV d) ∧ Below W.heap.size W wr
set_option maxRecDepth 100000 in
set_option maxHeartbeats 4000000 in
theorem fr14_add_of (Z : Array Value) (hZ : Z = (bytesV (List.replicate 32 0)).toArray) (hzs : ∀ w, Sem.run Tryd.prog (zeroValue 41) w = .ok (.agg Z) w)
    (a n P cp : Nat) (op : Option Addr) (ps : List (List UInt8)) (hP : ps.length = P) (W : World) (ha : W.heap[a]? = some (.cells #[.int .i64 (n : Int), .slice op P cp] 65 (0, 0))) (hD : DgIs W op ps cp) (hps : ps.length = Da.ones n)
    (hlt : n < 1099511627776) (b : List UInt8) (o : Option Addr) (c : Nat) (hR : RowIs W o (bytesV b) c) (hbl : b.length ≤ 800000) (hV : Cds W) :
    Calls Tryd.prog 14 #[.pointer (some ⟨a, 0, none⟩), .slice o b.length c] W fun e w' => ∃ o' c', e = .returned .nilIface ∧
      w'.heap[a]? = some (.cells #[.int .i64 ((n + 1 : Nat) : Int), .slice o' (Da.psh n ps (Da.lf b)).length c'] 65 (0, 0)) ∧ DgIs w' o' (Da.psh n ps (Da.lf b)) c' ∧ (∃ q off, o' = some ⟨q, off, none⟩ ∧ W.heap.size ≤ q) ∧ Rf.Mut (fun k => k = a) W w' := by
  have haL : a < W.heap.size := (Array.getElem?_eq_some_iff.1 ha).1
  have hc0 : W.cell? ⟨a, 0, none⟩ = some (.int .i64 (n : Int)) := by unfold World.cell?; rw [ha]; rfl
  have hc1 : W.cell? ⟨a, 1, none⟩ = some (.slice op P cp) := by unfold World.cell?; rw [ha]; rfl
  have hd0 : decide ((n : Int) ≥ 1099511627776) = false := decide_eq_false (by omega)
  have hd0' : decide ((1099511627776 : Int) ≤ (n : Int)) = false := decide_eq_false (by omega)
  have TL := tleaf_any b o c
  obtain ⟨d0, hd0e⟩ : ∃ d, Da.lf b = d := ⟨_, rfl⟩
  have hdl : d0.length = 32 := by rw [← hd0e]; exact Da.lf_length _
  rw [hd0e] at TL ⊢
  obtain ⟨D, hDe⟩ : ∃ D, (bytesV d0).toArray = D := ⟨_, rfl⟩
  rw [hDe] at TL
  obtain ⟨l, hl⟩ : ∃ l, b.length = l := ⟨_, rfl⟩
  rw [hl] at TL hbl ⊢
  have HTL := Lib.hid (fun w' (hb : Below W.heap.size W w') => TL w' (hR.later hb) (hV.later hb) hbl)
  have HV := Lib.hid hV
  have HA := Lib.hid ha
  have HD := Lib.hid hD
  have HPS := Lib.hid hps
  have HP := Lib.hid hP
  have HDL := Lib.hid hdl
  have HDE := Lib.hid hDe
  have HAL := Lib.hid haL
  have HZ := Lib.hid hZ
  clear TL hR hV ha hD hps hP hdl hDe haL hZ hl hbl hd0e
  go_enter Tryd.func14, Tryd.ntmps14
  have hDS : D.size = 32 := by rw [← HDE.out]; simp [HDL.out]
  have HDS : Hid ((Tryd.prog.info? 41).map (·.size) = some D.size) := Lib.hid (by rw [dg_info, hDS])
  have HDO : Hid (D.all (·.oneCell') = true) := Lib.hid (by rw [← HDE.out]; exact all_oneCell_toArray (bytesV_one _))
  have HDZ : Hid (Z.size = D.size) := Lib.hid (by rw [HZ.out, hDS]; simp)
  clear hDS
  go_upto_region 3 with fail
  -- STOP1
  refine Code.wp_mono (Q := fun e b' v => e = .normal ∧ ∃ g, W.heap.size ≤ g ∧ v.heap[g]? = some (.cells D 41 (0, 0)) ∧ Below W.heap.size W v ∧ b' = { tmps := #[.pointer (some ⟨a, 0, none⟩), .slice o l c, undef, undef, .nilIface, .slice op P cp, .pointer (some ⟨g, 0, none⟩), undef, undef, .pointer (some ⟨a, 0, none⟩), .pointer (some ⟨a, 0, none⟩), .pointer (some ⟨a, 0, none⟩), .int .i64 (n : Int), .bool false, undef, .pointer (some ⟨a, 0, none⟩), .pointer (some ⟨a, 0, none⟩), .pointer (some ⟨a, 1, none⟩), .slice op P cp, .slice o l c, .agg D, undef, undef, undef, undef, undef, undef, undef, undef, undef, undef, undef, undef, undef, undef, undef, undef, undef, undef, undef, undef, undef, undef, undef, undef, undef, undef, undef, undef, undef, undef, undef, undef, undef, undef, undef, undef], defers := [] }) ?rest ?reg
  case reg =>
    obtain ⟨C, hC⟩ : ∃ C : World → Prop, (fun v : World => Below W.heap.size W v) = C := ⟨_, rfl⟩
    have HC1 : Hid (∀ v, Below W.heap.size W v → C v) := Lib.hid fun v hv => by rw [← hC]; exact hv
    have HC2 : Hid (∀ v, C v → Below W.heap.size W v) := Lib.hid fun v hv => by rw [← hC] at hv; exact hv
    have HG1 : Hid (∀ v, C v → v.cell? ⟨a, 1, none⟩ = some (.slice op P cp)) := Lib.hid fun v hv => by
      rw [(HC2.out v hv).cell (p := ⟨a, 1, none⟩) HAL.out]
      exact hc1
    have hC0 : C W.drew := HC1.out _ (Kit.dn' W 1)
    clear hC hc0 hc1
    refine Rgt.region C (fun t => t == 8) (by kernel_rfl) ?_
    refine Rgt.take (i := 0) (x := .pointer (some ⟨a, 0, none⟩)) rfl rfl (by kernel_rfl) (by kernel_rfl) (by kernel_rfl) (by kernel_rfl) (fun _ _ _ h => (by cases h.1)) (Or.inl ⟨by kernel_rfl, fun w hw => by (go_simp <;> with_reducible rfl)⟩) hC0 ?_
    go_simp
    refine Rgt.take (i := 1) (x := .pointer (some ⟨a, 0, none⟩)) rfl rfl (by kernel_rfl) (by kernel_rfl) (by kernel_rfl) (by kernel_rfl) (fun _ _ _ h => (by cases h.1)) (Or.inl ⟨by kernel_rfl, fun w hw => by (go_simp <;> with_reducible rfl)⟩) hC0 ?_
    go_simp
    refine Rgt.take (i := 2) (x := .pointer (some ⟨a, 1, none⟩)) rfl rfl (by kernel_rfl) (by kernel_rfl) (by kernel_rfl) (by kernel_rfl) (fun _ _ _ h => (by cases h.1)) (Or.inl ⟨by kernel_rfl, fun w hw => by (go_simp <;> with_reducible rfl)⟩) hC0 ?_
    go_simp
    refine Rgt.take (i := 3) (x := .slice op P cp) rfl rfl (by kernel_rfl) (by kernel_rfl) (by kernel_rfl) (by kernel_rfl) (fun _ _ _ h => (by cases h.1)) (Or.inl ⟨by kernel_rfl, fun w hw => by have hc := HG1.out w hw; (go_simp <;> with_reducible rfl)⟩) hC0 ?_
    go_simp
    refine Rgt.take (i := 4) (x := .slice o l c) rfl rfl (by kernel_rfl) (by kernel_rfl) (by kernel_rfl) (by kernel_rfl) (fun _ _ _ h => (by cases h.1)) (Or.inl ⟨by kernel_rfl, fun w hw => by (go_simp <;> with_reducible rfl)⟩) hC0 ?_
    go_simp
    obtain ⟨V0, hV⟩ : ∃ V, W.drew = V := ⟨_, rfl⟩
    rw [hV] at hC0 ⊢
    clear hV
    refine Rgt.ready2 (i := 5) (j := 6) (by kernel_rfl) rfl rfl (by kernel_rfl) (by kernel_rfl) (fun K hK => ?_) (fun K hK => ?_)
    · go_simp
      refine (HTL.out _ (HC2.out _ hC0)).mono ?_
      rintro e V1 ⟨rfl, hb1⟩
      have hC1 := HC1.out _ (Kit.step (HC2.out _ hC0) hb1)
      refine hK _ _ hC1 ?_
      clear hK K
      refine Rgt.ready (i := 6) (by kernel_rfl) rfl (by kernel_rfl) (fun K hK => ?_)
      go_simp
      obtain ⟨g, hg⟩ : ∃ g, V1.heap.size = g := ⟨_, rfl⟩
      obtain ⟨V2, hV2⟩ : ∃ V, V1.alloc (.cells Z 41) = V := ⟨_, rfl⟩
      have hb2 : Below V1.heap.size V1 V2 := by rw [← hV2]; exact new12 _ _
      have hzx : V2.heap[g]? = some (.cells Z 41 (0, 0)) := by rw [← hV2, ← hg]; exact World.alloc_heap_new V1 _
      rw [hV2, hg]
      have hC2 := HC1.out _ (Kit.step (HC2.out _ hC1) hb2)
      refine hK _ _ hC2 ?_
      clear hK K
      have hB2 := HC2.out _ hC2
      have hgw : W.heap.size ≤ g := by have := (HC2.out _ hC0).size; have := hb1.size; omega
      have HZX := Lib.hid hzx
      have HFIN := Lib.hid (show W.heap.size ≤ g ∧ (V2.setRow g D).heap[g]? = some (.cells D 41 (0, 0)) ∧ Below W.heap.size W (V2.setRow g D) from ⟨hgw, setRow_heap _ _ _ _ _ _ hzx, hB2.trans (below_row hgw)⟩)
      clear hg hV2 hb1 hb2 hzx hB2 hgw hC1
      refine Rgt.ready (i := 7) (by kernel_rfl) rfl (by kernel_rfl) (fun K hK => ?_)
      go_simp
      refine hK _ _ hC2 ?_
      clear hK K
      refine Rgt.readyT (i := 8) (by kernel_rfl) rfl rfl (by kernel_rfl) (fun K hK => ?_)
      refine wp_store_row 41 (.tmp 6) (.tmp 20) rfl g D rfl rfl 41 Z HZX.out HDS.out HDZ.out HDO.out (hK _ _ ?_)
      clear hK K
      refine Rgt.done (by kernel_rfl) ?_ _
      obtain ⟨q1, q2, q3⟩ := HFIN.out
      exact ⟨rfl, g, q1, q2, q3, rfl⟩
    · go_simp
      obtain ⟨g, hg⟩ : ∃ g, V0.heap.size = g := ⟨_, rfl⟩
      obtain ⟨V1, hV1⟩ : ∃ V, V0.alloc (.cells Z 41) = V := ⟨_, rfl⟩
      have hb1 : Below V0.heap.size V0 V1 := by rw [← hV1]; exact new12 _ _
      have hzx1 : V1.heap[g]? = some (.cells Z 41 (0, 0)) := by rw [← hV1, ← hg]; exact World.alloc_heap_new V0 _
      rw [hV1, hg]
      have hC1 := HC1.out _ (Kit.step (HC2.out _ hC0) hb1)
      refine hK _ _ hC1 ?_
      clear hK K
      refine Rgt.ready (i := 5) (by kernel_rfl) rfl (by kernel_rfl) (fun K hK => ?_)
      go_simp
      refine (HTL.out _ (HC2.out _ hC1)).mono ?_
      rintro e V2 ⟨rfl, hb2⟩
      have hC2 := HC1.out _ (Kit.step (HC2.out _ hC1) hb2)
      refine hK _ _ hC2 ?_
      clear hK K
      have hzx : V2.heap[g]? = some (.cells Z 41 (0, 0)) := by rw [hb2.block g (Array.getElem?_eq_some_iff.1 hzx1).1]; exact hzx1
      have hB2 := HC2.out _ hC2
      have hgw : W.heap.size ≤ g := by have := (HC2.out _ hC0).size; omega
      have HZX := Lib.hid hzx
      have HFIN := Lib.hid (show W.heap.size ≤ g ∧ (V2.setRow g D).heap[g]? = some (.cells D 41 (0, 0)) ∧ Below W.heap.size W (V2.setRow g D) from ⟨hgw, setRow_heap _ _ _ _ _ _ hzx, hB2.trans (below_row hgw)⟩)
      clear hg hV1 hb1 hb2 hzx hzx1 hB2 hgw hC1
      refine Rgt.ready (i := 7) (by kernel_rfl) rfl (by kernel_rfl) (fun K hK => ?_)
      go_simp
      refine hK _ _ hC2 ?_
      clear hK K
      refine Rgt.readyT (i := 8) (by kernel_rfl) rfl rfl (by kernel_rfl) (fun K hK => ?_)
      refine wp_store_row 41 (.tmp 6) (.tmp 20) rfl g D rfl rfl 41 Z HZX.out HDS.out HDZ.out HDO.out (hK _ _ ?_)
      clear hK K
      refine Rgt.done (by kernel_rfl) ?_ _
      obtain ⟨q1, q2, q3⟩ := HFIN.out
      exact ⟨rfl, g, q1, q2, q3, rfl⟩
  rintro e b' X0 ⟨rfl, g, hgw, hga, hbx, rfl⟩
  dsimp only
  -- STOP2
  have HGA : Hid (Arr X0 g 41 (bytesV d0)) := Lib.hid (by unfold Arr; rw [HDE.out]; exact hga)
  have hcx : X0.cell? ⟨a, 0, none⟩ = some (.int .i64 (n : Int)) := by rw [hbx.cell (p := ⟨a, 0, none⟩) HAL.out]; exact hc0
  have hne : a ≠ g := by have := HAL.out; omega
  have HGN := Lib.hid (And.intro hgw hne)
  have HI0 : Hid (AdI14 W ps (Da.psh n ps d0) n op cp g (.slice op P cp) (.int .i64 (n : Int)) X0) := Lib.hid ⟨n, ps, d0, by rw [HP.out], rfl, Nat.le_refl _, HD.out, HPS.out, HDL.out, rfl, HGA.out, hbx⟩
  clear hgw hga hbx hc0 hc1 hne
  go_wp2_with fail
  clear hcx
  go_loopw [5, 7] (fun rv lv wr => AdI14 W ps (Da.psh n ps d0) n op cp g rv lv wr) (fun _ lv _ => (intOf lv).toNat)
  case atStart => exact HI0.out
  case round =>
    obtain ⟨L, qs, d, rfl, rfl, hLn, hdg, hql, hdl, hT, hA, hB⟩ := hrel
    have ht : Int.tmod (L : Int) 2 = ((L % 2 : Nat) : Int) := by rw [show (2 : Int) = ((2 : Nat) : Int) from rfl, ← Int.ofNat_tmod]
    have hq : Int.tdiv (L : Int) 2 = ((L / 2 : Nat) : Int) := by rw [show (2 : Int) = ((2 : Nat) : Int) from rfl, ← Int.ofNat_tdiv]
    have hcap := hdg.cap
    have hle := hdg.le
    unfold maxLen at hcap
    obtain ⟨Dd, hDd⟩ : ∃ Dd, (bytesV d).toArray = Dd := ⟨_, rfl⟩
    have hDs : Dd.size = 32 := by rw [← hDd]; simp [hdl]
    have HDS2 : Hid ((Tryd.prog.info? 41).map (·.size) = some Dd.size) := Lib.hid (by rw [dg_info, hDs])
    have hA2 : wr.heap[g]? = some (.cells Dd 41 (0, 0)) := by rw [← hDd]; exact hA
    have HDD := Lib.hid hDd
    have HDs := Lib.hid hDs
    have HA2 := Lib.hid hA2
    have HB := Lib.hid hB
    have HTT := Lib.hid hT
    have HDG := Lib.hid hdg
    have HDL2 := Lib.hid hdl
    have HQL := Lib.hid hql
    obtain ⟨C, hC⟩ : ∃ C : World → Prop, (fun v : World => Below wr.heap.size wr v) = C := ⟨_, rfl⟩
    have HC1 : Hid (∀ v, Below wr.heap.size wr v → C v) := Lib.hid fun v hv => by rw [← hC]; exact hv
    have HC2 : Hid (∀ v, C v → Below wr.heap.size wr v) := Lib.hid fun v hv => by rw [← hC] at hv; exact hv
    have HGL : Hid (∀ v, C v → v.heap[g]? = some (.cells Dd 41 (0, 0))) := Lib.hid fun v hv => by rw [(HC2.out v hv).block g (Array.getElem?_eq_some_iff.1 HA2.out).1]; exact HA2.out
    have hC0 : C wr.drew := HC1.out _ (Kit.dn' wr 1)
    clear hC
    by_cases hodd : L % 2 = 1
    · have hb1 : (((L % 2 : Nat) : Int) == 1) = true := by rw [hodd]; rfl
      have hon := Da.ones_pos (n := L) (by omega)
      obtain ⟨q, hqq⟩ : ∃ q, qs.length = q + 1 := ⟨qs.length - 1, by omega⟩
      obtain ⟨b1, off1, rfl, hb1l, hrng⟩ := (hdg.later hB).at_ q (by omega)
      have hel := hdg.all.at_ (i := q) (by omega)
      have hw1 : IntKind.i64.wrap (((q + 1 : Nat) : Int) - 1) = (q : Int) := by rw [IntKind.wrap_i64]; omega
      have hw2 : IntKind.i64.wrap ((L / 2 : Nat) : Int) = ((L / 2 : Nat) : Int) := by rw [IntKind.wrap_i64]; omega
      obtain ⟨e1, he1⟩ : ∃ e1, bi qs q = e1 := ⟨_, rfl⟩
      rw [he1] at hrng hel
      have NO := fun v (hv : Cds v) => tnode_any e1 d hel hdl v hv
      obtain ⟨E, hE⟩ : ∃ E, (bytesV e1).toArray = E := ⟨_, rfl⟩
      obtain ⟨G, hG⟩ : ∃ G, (bytesV (Da.nd e1 d)).toArray = G := ⟨_, rfl⟩
      rw [hE, hDd, hG] at NO
      have hGs : G.size = 32 := by rw [← hG]; simp [Da.nd_length]
      have HLD : Hid (∀ v, C v → (Instr.loadAt 41 (.pointer (some ⟨b1, off1 + q * 32, none⟩))).run Tryd.prog v = .ok (.agg E) v) := Lib.hid fun v hv => by
        have := dg_load_run dg_under dgI_code hel (rangeAt_later hrng (HC2.out v hv) hb1l)
        rw [hE] at this
        exact this
      have HNO := Lib.hid NO
      have HGO : Hid (G.all (·.oneCell') = true) := Lib.hid (by rw [← hG]; exact all_oneCell_toArray (bytesV_one _))
      have HGS : Hid ((Tryd.prog.info? 41).map (·.size) = some G.size) := Lib.hid (by rw [dg_info, hGs])
      have HGZ : Hid (Dd.size = G.size) := Lib.hid (by rw [HDs.out, hGs])
      have hpart := HDG.out.part 0 q (by omega) cp (by omega) (by unfold maxLen; omega)
      rw [Nat.zero_mul, Nat.add_zero, List.drop_zero] at hpart
      have htl : (qs.take q).length = q := by rw [List.length_take]; omega
      have hpsh := Da.psh_odd qs d hodd
      rw [hqq, show q + 1 - 1 = q by omega, he1, HTT.out] at hpsh
      have hol : q = Da.ones (L / 2) := by have := HQL.out; omega
      have HNX := Lib.hid (show DgIs W (some ⟨b1, off1, none⟩) (qs.take q) cp ∧ (qs.take q).length = q ∧ Da.psh (L / 2) (qs.take q) (Da.nd e1 d) = Da.psh n ps d0 ∧ q = Da.ones (L / 2) ∧ (bytesV (Da.nd e1 d)).toArray = G from ⟨hpart, htl, hpsh.symm, hol, hG⟩)
      have hL1 : 1 ≤ L := by omega
      rw [hqq] at hle ⊢
      have hlt9 : (q : Int) < (q : Int) + 1 := by omega
      have hlt8 : ¬ ((q : Int) + 1 ≤ (q : Int)) := by omega
      clear hdg hql hdl hT hA hB hDd hDs hA2 hon hrng hel he1 NO hE hG hGs hpart htl hpsh hol hqq hb1l
      go_upto_region 8 with fail
      -- STOP3
      refine Rgt.region C (fun t => t == 6) (by kernel_rfl) ?_
      refine Rgt.take (i := 0) (x := .slice (some ⟨b1, off1, none⟩) (q + 1) cp) rfl rfl (by kernel_rfl) (by kernel_rfl) (by kernel_rfl) (by kernel_rfl) (fun _ _ _ h => h) (Or.inl ⟨by kernel_rfl, fun w hw => by (go_simp <;> with_reducible rfl)⟩) hC0 ?_
      go_simp
      refine Rgt.take (i := 1) (x := .int .i64 (q : Int)) rfl rfl (by kernel_rfl) (by kernel_rfl) (by kernel_rfl) (by kernel_rfl) (fun _ _ _ h => h) (Or.inl ⟨by kernel_rfl, fun w hw => by (go_simp <;> with_reducible rfl)⟩) hC0 ?_
      go_simp
      refine Rgt.take (i := 2) (x := .pointer (some ⟨b1, off1 + q * 32, none⟩)) rfl rfl (by kernel_rfl) (by kernel_rfl) (by kernel_rfl) (by kernel_rfl) (fun _ _ _ h => h) (Or.inl ⟨by kernel_rfl, fun w hw => by (go_simp <;> with_reducible rfl)⟩) hC0 ?_
      go_simp
      refine Rgt.take (i := 3) (x := .agg E) rfl rfl (by kernel_rfl) (by kernel_rfl) (by kernel_rfl) (by kernel_rfl) (fun _ _ _ h => h) (Or.inl ⟨by kernel_rfl, fun w hw => exec_mid14 rfl rfl (HLD.out w hw)⟩) hC0 ?_
      go_simp
      refine Rgt.take (i := 4) (x := .agg Dd) rfl rfl (by kernel_rfl) (by kernel_rfl) (by kernel_rfl) (by kernel_rfl) (fun _ _ _ h => h) (Or.inl ⟨by kernel_rfl, fun w hw => exec_row (t := 41) (fr := (0, 0)) rfl rfl (HGL.out w hw) dg_under rfl HDS2.out⟩) hC0 ?_
      go_simp
      refine Rgt.ready (i := 5) (by kernel_rfl) rfl (by kernel_rfl) (fun K hK => ?_)
      go_simp
      refine (HNO.out _ (HV.out.later (Kit.step HB.out (HC2.out _ hC0)))).mono ?_
      rintro e Y1 ⟨rfl, hb⟩
      have hbY := Kit.step (HC2.out _ hC0) hb
      have hC1 := HC1.out _ hbY
      refine hK _ _ hC1 ?_
      clear hK K
      have HZX := Lib.hid (HGL.out _ hC1)
      have HFIN := Lib.hid (show Arr (Y1.setRow g G) g 41 (bytesV (Da.nd e1 d)) ∧ Below W.heap.size W (Y1.setRow g G) from ⟨by unfold Arr; rw [HNX.out.2.2.2.2]; exact setRow_heap _ _ _ _ _ _ HZX.out, (Kit.step HB.out hbY).trans (below_row HGN.out.1)⟩)
      clear hb hbY hC0 hC1
      refine Rgt.readyT (i := 6) (by kernel_rfl) rfl rfl (by kernel_rfl) (fun K hK => ?_)
      refine wp_store_row 41 (.tmp 6) (.tmp 38) rfl g G rfl rfl 41 Dd HZX.out HGS.out HGZ.out HGO.out (hK _ _ ?_)
      clear hK K
      refine Rgt.done (by kernel_rfl) ?_ _
      go_wp2_with fail
      -- STOP4
      go_roundw
      case rel => exact ⟨L / 2, qs.take q, Da.nd e1 d, by rw [HNX.out.2.1], rfl, by omega, HNX.out.1, by rw [HNX.out.2.1]; exact HNX.out.2.2.2.1, Da.nd_length _ _, HNX.out.2.2.1, HFIN.out.1, HFIN.out.2⟩
      case measure => simp [intOf]; omega
    · have hb1 : (((L % 2 : Nat) : Int) == 1) = false := by rw [beq_eq_false_iff_ne]; omega
      rw [Da.psh_even qs d (by omega)] at hT
      obtain ⟨k, hk⟩ : ∃ k, qs.length = k := ⟨_, rfl⟩
      have hk64 : k ≤ 64 := by
        have := fr14_ones (n := L) (by omega)
        rw [← hql] at this
        omega
      have HDK : Hid (∀ v, Below wr.heap.size wr v → DgIs v op qs k) := Lib.hid fun v hv => by
        have h9 := HDG.out.later (Kit.step HB.out hv)
        exact ⟨by rw [hk]; exact Nat.le_refl _, by unfold maxLen; omega, fun e => by subst e; obtain ⟨_, h8⟩ := h9.noaddr; rw [h8] at hk; exact hk.symm, h9.all, h9.cells⟩
      have HKL := Lib.hid hk
      have HT2 := Lib.hid hT
      rw [hk] at hle ⊢
      have HCLI := Lib.hid (fun v => dclip_any op k cp hle (by omega) v)
      have HW9 : Hid (∀ v, Below wr.heap.size wr v → v.heap[a]? = some (.cells #[.int .i64 (n : Int), .slice op P cp] 65 (0, 0))) := Lib.hid fun v hv => by
        rw [(Kit.step HB.out hv).block a HAL.out]; exact HA.out
      clear hdg hql hdl hT hA hB hDd hDs hA2 hk hodd hC0
      obtain ⟨C', hC'⟩ : ∃ C' : World → Prop, (fun v : World => v.heap[g]? = some (.cells Dd 41 (0, 0))) = C' := ⟨_, rfl⟩
      have HC1' : Hid (∀ v : World, v.heap[g]? = some (.cells Dd 41 (0, 0)) → C' v) := Lib.hid fun v hv => by rw [← hC']; exact hv
      have HC2' : Hid (∀ v, C' v → v.heap[g]? = some (.cells Dd 41 (0, 0))) := Lib.hid fun v hv => by rw [← hC'] at hv; exact hv
      have hC0 : C' wr.drew := HC1'.out _ HA2.out
      clear hC' HC1 HC2 HGL
      go_upto_region 10 with fail
      -- STOP5
      refine Rgt.region C' (fun _ => false) (by kernel_rfl) ?_
      refine Rgt.take (i := 0) (x := .pointer (some ⟨a, 0, none⟩)) rfl rfl (by kernel_rfl) (by kernel_rfl) (by kernel_rfl) (by kernel_rfl) (fun _ _ _ h => h) (Or.inl ⟨by kernel_rfl, fun w hw => by (go_simp <;> with_reducible rfl)⟩) hC0 ?_
      go_simp
      refine Rgt.take (i := 1) (x := .slice op k cp) rfl rfl (by kernel_rfl) (by kernel_rfl) (by kernel_rfl) (by kernel_rfl) (fun _ _ _ h => h) (Or.inl ⟨by kernel_rfl, fun w hw => by (go_simp <;> with_reducible rfl)⟩) hC0 ?_
      go_simp
      refine Rgt.take (i := 3) (x := .agg Dd) rfl rfl (by kernel_rfl) (by kernel_rfl) (by kernel_rfl) (by kernel_rfl) (fun _ _ _ h => h) (Or.inl ⟨by kernel_rfl, fun w hw => exec_row (t := 41) (fr := (0, 0)) rfl rfl (HC2'.out w hw) dg_under rfl HDS2.out⟩) hC0 ?_
      go_simp
      obtain ⟨V0, hV0⟩ : ∃ V, wr.drew = V := ⟨_, rfl⟩
      have hbv : Below wr.heap.size wr V0 := by rw [← hV0]; exact Kit.dn' wr 1
      rw [hV0] at hC0 ⊢
      have hbs := dg_slice_run (tS := 32) Tryd.underlying32 dgI_code Dd HDs.out V0
      obtain ⟨V1, hV1⟩ : ∃ V, V0.alloc (.cells Dd 41) = V := ⟨_, rfl⟩
      have hb1' : Below V0.heap.size V0 V1 := by rw [← hV1]; exact new12 _ _
      have hrow : V1.rangeAt V0.heap.size 0 (bytesV d) := by rw [← hV1, ← HDD.out]; exact (Arr.made V0 41 (bytesV d)).rng
      rw [hV1] at hbs
      obtain ⟨hp, hhp⟩ : ∃ hp, V0.heap.size = hp := ⟨_, rfl⟩
      rw [hhp] at hbs hrow
      have hB1 := Kit.step hbv hb1'
      obtain ⟨cap, V2, hrun, hdg2, hb2⟩ := dg_append_clip (tS := 32) Tryd.underlying32 dgI_code 32 V1 qs op k HKL.out (HDK.out _ hB1) hp d HDL2.out hrow (by omega)
      have hB2 := Kit.step hB1 hb2
      have hga1 : V1.heap[g]? = some (.cells Dd 41 (0, 0)) := by rw [hB1.block g (Array.getElem?_eq_some_iff.1 HA2.out).1]; exact HA2.out
      have hga2 : V2.heap[g]? = some (.cells Dd 41 (0, 0)) := by rw [hB2.block g (Array.getElem?_eq_some_iff.1 HA2.out).1]; exact HA2.out
      have hC1 := HC1'.out _ hga1
      have hC2 := HC1'.out _ hga2
      have hAr : Arr V2 a 65 [.int .i64 (n : Int), .slice op P cp] := HW9.out _ hB2
      have hc5 : V2.cell? ⟨a, 1, none⟩ = some (.slice op P cp) := by rw [hAr.cell]; rfl
      have hf5 : V2.frozen? ⟨a, 1, none⟩ = false := by unfold World.frozen?; rw [show V2.heap[a]? = _ from hAr]; rfl
      obtain ⟨vz, hSV⟩ : ∃ vz, V1.heap.size = vz := ⟨_, rfl⟩
      have hAr3 : Arr (V2.setCell ⟨a, 1, none⟩ (.slice (some ⟨vz, 0, none⟩) (k + 1) cap)) a 65 [.int .i64 (n : Int), .slice (some ⟨vz, 0, none⟩) (k + 1) cap] := hAr.set 1 (.slice (some ⟨vz, 0, none⟩) (k + 1) cap)
      have hgr3 := grown_set hAr 1 (.slice (some ⟨vz, 0, none⟩) (k + 1) cap)
      have hC3 : C' (V2.setCell ⟨a, 1, none⟩ (.slice (some ⟨vz, 0, none⟩) (k + 1) cap)) := HC1'.out _ (by rw [hgr3.block g (Array.getElem?_eq_some_iff.1 hga2).1 (fun e => HGN.out.2 (by injection e with e; exact e.symm))]; exact hga2)
      have hc6 : (V2.setCell ⟨a, 1, none⟩ (.slice (some ⟨vz, 0, none⟩) (k + 1) cap)).cell? ⟨a, 0, none⟩ = some (.int .i64 (n : Int)) := by rw [hAr3.cell]; rfl
      have hf6 : (V2.setCell ⟨a, 1, none⟩ (.slice (some ⟨vz, 0, none⟩) (k + 1) cap)).frozen? ⟨a, 0, none⟩ = false := by unfold World.frozen?; rw [show (V2.setCell ⟨a, 1, none⟩ (.slice (some ⟨vz, 0, none⟩) (k + 1) cap)).heap[a]? = _ from hAr3]; rfl
      have hw6 : IntKind.i64.wrap ((n : Int) + 1) = (n : Int) + 1 := by rw [IntKind.wrap_i64]; omega
      have hAr4 : Arr ((V2.setCell ⟨a, 1, none⟩ (.slice (some ⟨vz, 0, none⟩) (k + 1) cap)).setCell ⟨a, 0, none⟩ (.int .i64 ((n : Int) + 1))) a 65 [.int .i64 ((n : Int) + 1), .slice (some ⟨vz, 0, none⟩) (k + 1) cap] := hAr3.set 0 _
      have hgr4 := grown_set hAr3 0 (.int .i64 ((n : Int) + 1))
      have hm4 : Rf.Mut (fun k => k = a) V2 ((V2.setCell ⟨a, 1, none⟩ (.slice (some ⟨vz, 0, none⟩) (k + 1) cap)).setCell ⟨a, 0, none⟩ (.int .i64 ((n : Int) + 1))) := (Rf.Mut.grown hgr3 (fun k e => by injection e with e; exact e.symm)).trans (Rf.Mut.grown hgr4 (fun k e => by injection e with e; exact e.symm))
      have hV1s : W.heap.size ≤ V1.heap.size := (Kit.step HB.out hB1).size
      have HFIN : Hid (∃ o' c', ((V2.setCell ⟨a, 1, none⟩ (.slice (some ⟨vz, 0, none⟩) (k + 1) cap)).setCell ⟨a, 0, none⟩ (.int .i64 ((n : Int) + 1))).heap[a]? = some (.cells #[.int .i64 ((n + 1 : Nat) : Int), .slice o' (Da.psh n ps d0).length c'] 65 (0, 0)) ∧
          DgIs ((V2.setCell ⟨a, 1, none⟩ (.slice (some ⟨vz, 0, none⟩) (k + 1) cap)).setCell ⟨a, 0, none⟩ (.int .i64 ((n : Int) + 1))) o' (Da.psh n ps d0) c' ∧ (∃ q off, o' = some ⟨q, off, none⟩ ∧ W.heap.size ≤ q) ∧ Rf.Mut (fun k => k = a) W ((V2.setCell ⟨a, 1, none⟩ (.slice (some ⟨vz, 0, none⟩) (k + 1) cap)).setCell ⟨a, 0, none⟩ (.int .i64 ((n : Int) + 1)))) := Lib.hid (by
        refine ⟨some ⟨V1.heap.size, 0, none⟩, cap, ?_, ?_, ⟨V1.heap.size, 0, rfl, hV1s⟩, (Rf.Mut.of_below (Kit.step HB.out hB2)).trans hm4⟩
        · rw [← HT2.out, List.length_append, HKL.out, List.length_singleton, hSV]
          exact hAr4
        · rw [← HT2.out]
          exact hdg2.moved hm4 (fun _ ad e => by cases e; show V1.heap.size ≠ a; have := HAL.out; omega))
      rw [hSV] at hrun
      have HBS := Lib.hid hbs
      have HRUN := Lib.hid hrun
      clear hV0 hbv hV1 hb1' hrow hhp hB1 hdg2 hb2 hB2 hga1 hga2 hAr hSV hAr3 hgr3 hAr4 hgr4 hm4 hV1s hbs hrun
      refine Rgt.ready2 (i := 2) (j := 4) (by kernel_rfl) rfl rfl (by kernel_rfl) (by kernel_rfl) (fun K hK => ?_) (fun K hK => ?_)
      · go_simp
        refine (HCLI.out _).mono ?_
        rintro e Vx ⟨rfl, rfl⟩
        refine hK _ _ hC0 ?_
        clear hK K
        refine Rgt.ready (i := 4) (by kernel_rfl) rfl (by kernel_rfl) (fun K hK => oper_slice 32 1 _ rfl #[(0, .agg Dd)] (by first | rfl | simp [Act.eval, Act.put]) _ _ HBS.out (hK _ _ hC1 ?_))
        clear hK K
        refine Rgt.ready (i := 5) (by kernel_rfl) rfl (by kernel_rfl) (fun K hK => oper_append (.tmp 44) (.tmp 46) 32 rfl _ _ rfl rfl _ _ HRUN.out (hK _ _ hC2 ?_))
        clear hK K
        clear hC0 hC1
        have hC0 := hC2
        clear hC2
        go_simp
        refine Rgt.take (i := 6) (x := .pointer (some ⟨a, 0, none⟩)) rfl rfl (by kernel_rfl) (by kernel_rfl) (by kernel_rfl) (by kernel_rfl) (fun _ _ _ h => h) (Or.inl ⟨by kernel_rfl, fun w hw => by (go_simp <;> with_reducible rfl)⟩) hC0 ?_
        go_simp
        refine Rgt.take (i := 7) (x := .pointer (some ⟨a, 1, none⟩)) rfl rfl (by kernel_rfl) (by kernel_rfl) (by kernel_rfl) (by kernel_rfl) (fun _ _ _ h => h) (Or.inl ⟨by kernel_rfl, fun w hw => by (go_simp <;> with_reducible rfl)⟩) hC0 ?_
        go_simp
        refine Rgt.ready (i := 8) (by kernel_rfl) rfl (by kernel_rfl) (fun K hK => ?_)
        go_simp
        refine hK _ _ hC3 ?_
        clear hK K
        refine Rgt.done (by kernel_rfl) ?_ _
        clear hc5 hf5
        go_wp2_with fail
        -- STOP6
        go_ret
        obtain ⟨o', c', q1, q2, q3, q4⟩ := HFIN.out
        exact ⟨o', c', rfl, q1, q2, q3, q4⟩
      · refine oper_slice 32 1 _ rfl #[(0, .agg Dd)] (by first | rfl | simp [Act.eval, Act.put]) _ _ HBS.out (hK _ _ hC1 ?_)
        clear hK K
        refine Rgt.ready (i := 2) (by kernel_rfl) rfl (by kernel_rfl) (fun K hK => ?_)
        go_simp
        refine (HCLI.out _).mono ?_
        rintro e Vx ⟨rfl, rfl⟩
        refine hK _ _ hC1 ?_
        clear hK K
        refine Rgt.ready (i := 5) (by kernel_rfl) rfl (by kernel_rfl) (fun K hK => oper_append (.tmp 44) (.tmp 46) 32 rfl _ _ rfl rfl _ _ HRUN.out (hK _ _ hC2 ?_))
        clear hK K
        clear hC0 hC1
        have hC0 := hC2
        clear hC2
        go_simp
        refine Rgt.take (i := 6) (x := .pointer (some ⟨a, 0, none⟩)) rfl rfl (by kernel_rfl) (by kernel_rfl) (by kernel_rfl) (by kernel_rfl) (fun _ _ _ h => h) (Or.inl ⟨by kernel_rfl, fun w hw => by (go_simp <;> with_reducible rfl)⟩) hC0 ?_
        go_simp
        refine Rgt.take (i := 7) (x := .pointer (some ⟨a, 1, none⟩)) rfl rfl (by kernel_rfl) (by kernel_rfl) (by kernel_rfl) (by kernel_rfl) (fun _ _ _ h => h) (Or.inl ⟨by kernel_rfl, fun w hw => by (go_simp <;> with_reducible rfl)⟩) hC0 ?_
        go_simp
        refine Rgt.ready (i := 8) (by kernel_rfl) rfl (by kernel_rfl) (fun K hK => ?_)
        go_simp
        refine hK _ _ hC3 ?_
        clear hK K
        refine Rgt.done (by kernel_rfl) ?_ _
        clear hc5 hf5
        go_wp2_with fail
        -- STOP6
        go_ret
        obtain ⟨o', c', q1, q2, q3, q4⟩ := HFIN.out
        exact ⟨o', c', rfl, q1, q2, q3, q4⟩
end Go.Proofs.YtfccpfmgkpcnoaaDoor
namespace Go.Proofs.YtfccpfmgkpcnoaaDoor
open Go.RowKit
set_option linter.unusedVariables false
set_option linter.unusedSimpArgs false
theorem fr14_add {O : Rf.Blk} {W : World} {v : Value} {n : Nat} {ps : List (List UInt8)} (h : FRd14 O W v n ps) (hlt : n < 1099511627776) (b : List UInt8) (o : Option Addr) (c : Nat) (hR : RowIs W o (bytesV b) c) (hbl : b.length ≤ 800000) (hV : Cds W) :
    Calls Tryd.prog 14 #[v, .slice o b.length c] W fun e w' => ∃ O', e = .returned .nilIface ∧ FRd14 O' w' v (n + 1) (Da.psh n ps (Da.lf b)) ∧ Rf.Mut O W w' ∧ ∀ k, O' k → O k ∨ W.heap.size ≤ k := by
  obtain ⟨a, op, cp, rfl, h1, h2, h3, h4, h5, h6, h7⟩ := h
  refine (fr14_add_of _ rfl dg_zero a n ps.length cp op ps rfl W h3 h4 h1 hlt b o c hR hbl hV).mono ?_
  rintro e w' ⟨o', c', rfl, q1, q2, ⟨q, off, q3, q4⟩, q5⟩
  have ha := h7 a h5
  refine ⟨fun k => k = a ∨ (W.heap.size ≤ k ∧ k < w'.heap.size), rfl, ⟨a, o', c', rfl, Da.psh_length n ps _ h1, by omega, q1, q2, .inl rfl, fun h0 => ?_, fun k hk => ?_⟩, q5.mono fun k hk => by rw [hk]; exact h5, fun k hk => ?_⟩
  · obtain ⟨b1, off1, e1, hb1, _⟩ := q2.cells h0
    rw [q3] at e1
    cases e1
    exact ⟨q, off, q3, .inr ⟨q4, hb1⟩, by omega⟩
  · rcases hk with rfl | hk
    · exact Nat.lt_of_lt_of_le ha q5.size
    · exact hk.2
  · rcases hk with rfl | hk
    · exact .inl h5
    · exact .inr hk.1
theorem fr14_full (A : Nat → Addr) {O : Rf.Blk} {W : World} {v : Value} {ps : List (List UInt8)} (h : FRd14 O W v 1099511627776 ps) (b : List UInt8) (o : Option Addr) (c : Nat) (hE : Er.Errs W A) :
    Calls Tryd.prog 14 #[v, .slice o b.length c] W fun e w' => e = .returned (errP A 12) ∧ Below W.heap.size W w' := by
  obtain ⟨a, op, cp, rfl, h1, h2, h3, h4, h5, h6, h7⟩ := h
  have hc : W.cell? ⟨a, 0, none⟩ = some (.int .i64 ((1099511627776 : Nat) : Int)) := by unfold World.cell?; rw [h3]; rfl
  rw [show ((1099511627776 : Nat) : Int) = 1099511627776 from rfl] at hc
  have hc2 := hE.c11
  clear h1 h2 h3 h4 h5 h6 h7 hE
  go_enter Tryd.func14, Tryd.ntmps14
  go_wp2_with fail
  go_ret
  exact ⟨rfl, Below.refl _ _⟩
theorem frc14 (A : Nat → Addr) : FrC A FRd14 where
  ptr := fun h => by obtain ⟨a, o, c, e, _⟩ := h; exact ⟨_, e⟩
  lt := fun h k hk => by obtain ⟨a, o, c, e, h1, h2, h3, h4, h5, h6, h7⟩ := h; exact h7 k hk
  keep := fun h hs hk => fr14_keep h hs hk
  all := fun h => by obtain ⟨a, o, c, e, h1, h2, h3, h4, h5, h6, h7⟩ := h; exact ⟨h4.all, h1, h2⟩
  new := fr14_new
  add := fun h hlt b o c hR hl hV => fr14_add h hlt b o c hR hl hV
  full := fun h b o c _ _ _ hE => fr14_full A h b o c hE
  root := fun h hV => fr14_root h hV
  size := fun h => fr14_size h
  peaks := fun h => fr14_peaks h
  of := fun W n ps o c hR hl hn => fr14_of W n ps o c hR hl hn
  ofr := fun W n ps o c hR hb _ hE => fr14_ofr A W n ps o c hR hb hE.t13
  ofs := fun W n ps o c hR hn hne hl hE => fr14_ofs A W n ps o c hR hn hne hl hE.t13
end Go.Proofs.YtfccpfmgkpcnoaaDoor
namespace Go.Proofs.YtfccpfmgkpcnoaaDoor
open Go.RowKit
set_option linter.unusedVariables false
set_option linter.unusedSimpArgs false
attribute [local go_sem] Oper.semAt_some
/-- between two rounds of made -/
structure MaI14 (w : World) (old : List UInt8) (ps : List (List UInt8)) (P m n g px py pz q : Nat) (p : List (Nat × Nat × Nat)) (o : Option Addr) (c : Nat) (X : World) : Prop where
  x : Arr X px 41 (bytesV (Da.gsf old p ps).1)
  y : Arr X py 41 (bytesV (Da.gsf old p ps).2)
  z : Boxed X pz 32 (.slice o (P - p.length) c)
  r : DgIs w o (ps.drop p.length) c
  f1 : Arr X (g + 1) 41 (bytesV (List.replicate 32 0))
  f2 : Arr X (g + 1 + 1) 41 (bytesV (List.replicate 32 0))
  bm : Boxed X q 3 (.int .i64 (m : Int))
  bn : Boxed X (q + 1) 3 (.int .i64 (n : Int))
  below : Below w.heap.size w X
theorem MaI14.later {w : World} {old : List UInt8} {ps : List (List UInt8)} {P m n g px py pz q : Nat} {p : List (Nat × Nat × Nat)} {o : Option Addr} {c : Nat} {X X' : World} (h : MaI14 w old ps P m n g px py pz q p o c X) (hb : Below X.heap.size X X') : MaI14 w old ps P m n g px py pz q p o c X' :=
  ⟨h.x.later hb h.x.lt, h.y.later hb h.y.lt, boxed_later h.z hb, h.r, h.f1.later hb h.f1.lt, h.f2.later hb h.f2.lt, boxed_later h.bm hb, boxed_later h.bn hb, Kit.step h.below hb⟩
theorem MaI14.nc {w : World} {old : List UInt8} {ps : List (List UInt8)} {P m n g px py pz q B : Nat} {p : List (Nat × Nat × Nat)} {o : Option Addr} {c : Nat} {X X' : World} (h : MaI14 w old ps P m n g px py pz q p o c X) (k : Rf.NC B X X') (hB : w.heap.size ≤ B) : MaI14 w old ps P m n g px py pz q p o c X' :=
  ⟨h.x.nc k, h.y.nc k, boxed_nc12 h.z k, h.r, h.f1.nc k, h.f2.nc k, boxed_nc12 h.bm k, boxed_nc12 h.bn k, h.below.trans (k.below hB h.below.size)⟩
/-- what lies in memory between two rounds of made -/
structure MaB14 (w : World) (m n g px py pz q : Nat) (d1 d2 : List UInt8) (S : Value) (X : World) : Prop where
  x : Arr X px 41 (bytesV d1)
  y : Arr X py 41 (bytesV d2)
  z : Boxed X pz 32 S
  f1 : Arr X (g + 1) 41 (bytesV (List.replicate 32 0))
  f2 : Arr X (g + 1 + 1) 41 (bytesV (List.replicate 32 0))
  bm : Boxed X q 3 (.int .i64 (m : Int))
  bn : Boxed X (q + 1) 3 (.int .i64 (n : Int))
  below : Below w.heap.size w X
theorem MaB14.later {w : World} {m n g px py pz q : Nat} {d1 d2 : List UInt8} {S : Value} {X X' : World} (h : MaB14 w m n g px py pz q d1 d2 S X) (hb : Below X.heap.size X X') : MaB14 w m n g px py pz q d1 d2 S X' :=
  ⟨h.x.later hb h.x.lt, h.y.later hb h.y.lt, boxed_later h.z hb, h.f1.later hb h.f1.lt, h.f2.later hb h.f2.lt, boxed_later h.bm hb, boxed_later h.bn hb, Kit.step h.below hb⟩
/-- the places are apart -/
def MaN14 (w : World) (g px py pz q : Nat) : Prop := px ≠ py ∧ px ≠ pz ∧ py ≠ pz ∧ g + 1 + 1 + 1 ≤ px ∧ g + 1 + 1 + 1 ≤ py ∧ g + 1 + 1 + 1 ≤ pz ∧ px < q ∧ py < q ∧ pz < q ∧ w.heap.size = g
theorem MaB14.setx {w : World} {m n g px py pz q : Nat} {d1 d2 : List UInt8} {S : Value} {X : World} (h : MaB14 w m n g px py pz q d1 d2 S X) (k : MaN14 w g px py pz q) (d : List UInt8) (F : Array Value) (hF : (bytesV d).toArray = F) : MaB14 w m n g px py pz q d d2 S (X.setRow px F) := by
  obtain ⟨k1, k2, k3, k4, k5, k6, k7, k8, k9, k10⟩ := k
  subst hF
  exact ⟨h.x.row_same, h.y.row_ne (Ne.symm k1), boxed_row_ne h.z (Ne.symm k2), h.f1.row_ne (by omega), h.f2.row_ne (by omega), boxed_row_ne h.bm (by omega), boxed_row_ne h.bn (by omega), h.below.trans (below_row (by omega))⟩
theorem MaB14.sety {w : World} {m n g px py pz q : Nat} {d1 d2 : List UInt8} {S : Value} {X : World} (h : MaB14 w m n g px py pz q d1 d2 S X) (k : MaN14 w g px py pz q) (d : List UInt8) (F : Array Value) (hF : (bytesV d).toArray = F) : MaB14 w m n g px py pz q d1 d S (X.setRow py F) := by
  obtain ⟨k1, k2, k3, k4, k5, k6, k7, k8, k9, k10⟩ := k
  subst hF
  exact ⟨h.x.row_ne k1, h.y.row_same, boxed_row_ne h.z (Ne.symm k3), h.f1.row_ne (by omega), h.f2.row_ne (by omega), boxed_row_ne h.bm (by omega), boxed_row_ne h.bn (by omega), h.below.trans (below_row (by omega))⟩
theorem MaB14.setz {w : World} {m n g px py pz q : Nat} {d1 d2 : List UInt8} {S : Value} {X : World} (h : MaB14 w m n g px py pz q d1 d2 S X) (k : MaN14 w g px py pz q) (T : Value) : MaB14 w m n g px py pz q d1 d2 T (X.setCell ⟨pz, 0, none⟩ T) := by
  obtain ⟨k1, k2, k3, k4, k5, k6, k7, k8, k9, k10⟩ := k
  have hh : ∀ b, b ≠ pz → (X.setCell ⟨pz, 0, none⟩ T).heap[b]? = X.heap[b]? := fun b hb => Below.heap_setCell _ _ _ b (fun e => hb e)
  exact ⟨(hh px k2).trans h.x, (hh py k3).trans h.y, h.z.set T, (hh (g + 1) (by omega)).trans h.f1, (hh (g + 1 + 1) (by omega)).trans h.f2, (hh q (by omega)).trans h.bm, (hh (q + 1) (by omega)).trans h.bn, h.below.setCell (p := ⟨pz, 0, none⟩) (show w.heap.size ≤ pz by omega) _⟩
theorem MaI14.base {w : World} {old : List UInt8} {ps : List (List UInt8)} {P m n g px py pz q : Nat} {p : List (Nat × Nat × Nat)} {o : Option Addr} {c : Nat} {X : World} (h : MaI14 w old ps P m n g px py pz q p o c X) :
    MaB14 w m n g px py pz q (Da.gsf old p ps).1 (Da.gsf old p ps).2 (.slice o (P - p.length) c) X := ⟨h.x, h.y, h.z, h.f1, h.f2, h.bm, h.bn, h.below⟩
theorem MaB14.done {w : World} {old : List UInt8} {ps : List (List UInt8)} {P m n g px py pz q : Nat} {p : List (Nat × Nat × Nat)} {o : Option Addr} {c : Nat} {X : World} {d1 d2 : List UInt8} {r : Nat} (h : MaB14 w m n g px py pz q d1 d2 (.slice o r c) X)
    (e : Da.gsf old p ps = (d1, d2)) (hr : r = P - p.length) (hd : DgIs w o (ps.drop p.length) c) : MaI14 w old ps P m n g px py pz q p o c X :=
  ⟨by rw [e]; exact h.x, by rw [e]; exact h.y, by rw [← hr]; exact h.z, hd, h.f1, h.f2, h.bm, h.bn, h.below⟩
set_option maxRecDepth 100000 in
set_option maxHeartbeats 8000000 in
theorem gmade_of (Z : Array Value) (hZ : Z = (bytesV (List.replicate 32 0)).toArray) (hzs : ∀ w, Sem.run Tryd.prog (zeroValue 41) w = .ok (.agg Z) w)
    (m n : Nat) (hm1 : 1 ≤ m) (hmn : m ≤ n) (h5 : n ≤ 512) (old : List UInt8) (ho : old.length = 32) (ps : List (List UInt8)) (o : Option Addr) (P c : Nat) (hP : ps.length = P) (hcnt : P = Da.cnt m n true) (w : World) (hR : DgIs w o ps c) (hV : Cds w) :
    Calls Tryd.prog 45 #[.int .i64 (m : Int), .int .i64 (n : Int), .agg (bytesV old).toArray, .slice o P c] w fun e w' =>
      e = .returned (.tuple #[.agg (bytesV (Da.mde m n old true ps).1).toArray, .agg (bytesV (Da.mde m n old true ps).2).toArray]) ∧ Below w.heap.size w w' := by
  have hmg := Da.mde_gsf n 0 m old true ps hm1 hmn (by rw [hP]; exact hcnt)
  have hlen := Da.ptt_length n 0 m true hm1 hmn
  rw [← hcnt] at hlen
  have hP20 : P ≤ 20 := by rw [hcnt]; exact Da.cnt_ten n m hm1 hmn h5
  obtain ⟨OA, hOA⟩ : ∃ OA, (bytesV old).toArray = OA := ⟨_, rfl⟩
  have hOs : OA.size = 32 := by rw [← hOA]; simp [ho]
  have HOS : Hid ((Tryd.prog.info? 41).map (·.size) = some OA.size) := Lib.hid (by rw [dg_info, hOs])
  have HOO : Hid (OA.all (·.oneCell') = true) := Lib.hid (by rw [← hOA]; exact all_oneCell_toArray (bytesV_one _))
  have HOZ : Hid (Z.size = OA.size) := Lib.hid (by rw [hZ, hOs]; simp)
  obtain ⟨g, hg⟩ : ∃ g, w.heap.size = g := ⟨_, rfl⟩
  obtain ⟨W1, hW1⟩ : ∃ W1, w.alloc (.cells OA 41) = W1 := ⟨_, rfl⟩
  obtain ⟨W2, hW2⟩ : ∃ W2, W1.alloc (.cells Z 41) = W2 := ⟨_, rfl⟩
  obtain ⟨W3, hW3⟩ : ∃ W3, W2.alloc (.cells Z 41) = W3 := ⟨_, rfl⟩
  have hb1 : Below w.heap.size w W1 := by rw [← hW1]; exact new12 _ _
  have hb2 : Below W1.heap.size W1 W2 := by rw [← hW2]; exact new12 _ _
  have hb3 : Below W2.heap.size W2 W3 := by rw [← hW3]; exact new12 _ _
  have hs1 : W1.heap.size = g + 1 := by rw [← hW1, World.size_alloc, hg]
  have hs2 : W2.heap.size = g + 1 + 1 := by rw [← hW2, World.size_alloc, hs1]
  have hs3 : W3.heap.size = g + 1 + 1 + 1 := by rw [← hW3, World.size_alloc, hs2]
  have hA1 : Arr W1 g 41 (bytesV old) := by rw [← hW1, ← hOA, ← hg]; exact Arr.made _ _ _
  have hA2 : Arr W2 (g + 1) 41 (bytesV (List.replicate 32 0)) := by rw [← hW2, hZ, ← hs1]; exact Arr.made _ _ _
  have hA3 : Arr W3 (g + 1 + 1) 41 (bytesV (List.replicate 32 0)) := by rw [← hW3, hZ, ← hs2]; exact Arr.made _ _ _
  have HA0 : Hid (W3.heap[g]? = some (.cells OA 41 (0, 0))) := Lib.hid (by
    have := (hA1.later hb2 hA1.lt).later hb3 (hA1.later hb2 hA1.lt).lt
    unfold Arr at this
    rwa [hOA] at this)
  have HA1 : Hid (Arr W3 (g + 1) 41 (bytesV (List.replicate 32 0)) ∧ Arr W3 (g + 1 + 1) 41 (bytesV (List.replicate 32 0))) := Lib.hid ⟨hA2.later hb3 hA2.lt, hA3⟩
  have hb03 := Kit.step (Kit.step hb1 hb2) hb3
  have HB3 := Lib.hid hb03
  have HV := Lib.hid hV
  have HR := Lib.hid hR
  have HMG := Lib.hid hmg
  have HLEN := Lib.hid hlen
  have HW1 := Lib.hid hW1
  have HW2 := Lib.hid hW2
  have HW3 := Lib.hid hW3
  have HG := Lib.hid hg
  have HSS := Lib.hid (And.intro hs1 (And.intro hs2 hs3))
  have HO := Lib.hid (And.intro ho (And.intro hOA hOs))
  have HP := Lib.hid (And.intro hP hcnt)
  have HM := Lib.hid (And.intro hm1 hmn)
  have HZ := Lib.hid hZ
  clear hmg hlen hW1 hW2 hW3 hb1 hb2 hb3 hs1 hs2 hs3 hA1 hA2 hA3 hb03 hg ho hOs hP hcnt hm1 hmn hR hV hZ
  rw [hOA]
  clear hOA
  refine Rf.calls_marks Tryd.func45 rfl ?_
  simp only [Tryd.ntmps45, List.size_toArray, List.length_cons, List.length_nil, Nat.reduceAdd, Nat.reduceSub, Array.replicate_succ, Array.replicate_zero, List.push_toArray, List.append_toArray, List.nil_append, List.cons_append]
  go_upto_region 1 with fail
  rw [HW1.out, HW2.out, HW3.out, HG.out]
  -- STOP1
  obtain ⟨Q2, hQ2⟩ : ∃ Q2 : Exit → Act → World → Prop, (fun e b' v => e = .normal ∧ ∃ px py pz, px ≠ py ∧ px ≠ pz ∧ py ≠ pz ∧ g + 1 + 1 + 1 ≤ px ∧ g + 1 + 1 + 1 ≤ py ∧ g + 1 + 1 + 1 ≤ pz ∧ v.heap[px]? = some (.cells OA 41 (0, 0)) ∧ v.heap[py]? = some (.cells OA 41 (0, 0)) ∧ Boxed v pz 32 (.slice o P c) ∧ Below W3.heap.size W3 v ∧ b' = { tmps := #[.int .i64 (m : Int), .int .i64 (n : Int), .agg OA, .slice o P c, undef, undef, .pointer (some ⟨g, 0, none⟩), undef, .pointer (some ⟨g + 1, 0, none⟩), .pointer (some ⟨g + 1 + 1, 0, none⟩), .pointer (some ⟨px, 0, none⟩), .pointer (some ⟨py, 0, none⟩), .pointer (some ⟨pz, 0, none⟩), undef, undef, .agg OA, .agg OA, .slice o P c, undef, undef, undef, undef, undef, undef, undef, undef, undef, undef, undef, undef, undef, undef, undef, undef, undef, undef, undef, undef, undef, undef, undef, undef, undef, undef, undef, undef, undef, undef], defers := [] }) = Q2 := ⟨_, rfl⟩
  refine Code.wp_mono (Q := Q2) ?rest ?reg
  case reg =>
    have HQ2 : Hid (∀ b' v, (∃ px py pz, px ≠ py ∧ px ≠ pz ∧ py ≠ pz ∧ g + 1 + 1 + 1 ≤ px ∧ g + 1 + 1 + 1 ≤ py ∧ g + 1 + 1 + 1 ≤ pz ∧ v.heap[px]? = some (.cells OA 41 (0, 0)) ∧ v.heap[py]? = some (.cells OA 41 (0, 0)) ∧ Boxed v pz 32 (.slice o P c) ∧ Below W3.heap.size W3 v ∧ b' = { tmps := #[.int .i64 (m : Int), .int .i64 (n : Int), .agg OA, .slice o P c, undef, undef, .pointer (some ⟨g, 0, none⟩), undef, .pointer (some ⟨g + 1, 0, none⟩), .pointer (some ⟨g + 1 + 1, 0, none⟩), .pointer (some ⟨px, 0, none⟩), .pointer (some ⟨py, 0, none⟩), .pointer (some ⟨pz, 0, none⟩), undef, undef, .agg OA, .agg OA, .slice o P c, undef, undef, undef, undef, undef, undef, undef, undef, undef, undef, undef, undef, undef, undef, undef, undef, undef, undef, undef, undef, undef, undef, undef, undef, undef, undef, undef, undef, undef, undef], defers := [] }) → Q2 .normal b' v) := Lib.hid fun b' v h => by rw [← hQ2]; exact ⟨rfl, h⟩
    have HQP : Hid (∀ c b' v, ¬ Q2 (.panic c) b' v) := Lib.hid fun c b' v h => by rw [← hQ2] at h; cases h.1
    clear hQ2
    obtain ⟨C, hC⟩ : ∃ C : World → Prop, (fun v : World => v.heap[g]? = some (.cells OA 41 (0, 0))) = C := ⟨_, rfl⟩
    have HC1 : Hid (∀ v : World, v.heap[g]? = some (.cells OA 41 (0, 0)) → C v) := Lib.hid fun v hv => by rw [← hC]; exact hv
    have HC2 : Hid (∀ v, C v → v.heap[g]? = some (.cells OA 41 (0, 0))) := Lib.hid fun v hv => by rw [← hC] at hv; exact hv
    have HCB : Hid (∀ v, Below W3.heap.size W3 v → C v) := Lib.hid fun v hv => HC1.out v (by rw [hv.block g (Array.getElem?_eq_some_iff.1 HA0.out).1]; exact HA0.out)
    have HCS : Hid (∀ (v : World) (k : Nat) (F : Array Value), g + 1 + 1 + 1 ≤ k → C v → C (v.setRow k F)) := Lib.hid fun v k F hk hv => HC1.out _ (by rw [setRow_other v k g F (by omega)]; exact HC2.out v hv)
    have HCX : Hid (∀ (v : World) (k : Nat) (x : Value), g + 1 + 1 + 1 ≤ k → C v → C (v.setCell ⟨k, 0, none⟩ x)) := Lib.hid fun v k x hk hv => HC1.out _ (by rw [Below.heap_setCell _ _ _ g (fun e => by dsimp only at e; omega)]; exact HC2.out v hv)
    have hC0 : C W3.drew := HCB.out _ (Kit.dn' W3 1)
    have HB0 : Hid (Below W3.heap.size W3 W3.drew) := Lib.hid (Kit.dn' W3 1)
    clear hC
    refine Rgt.region C (fun _ => false) (by kernel_rfl) ?_
    refine Rgt.take (i := 0) (x := .agg OA) rfl rfl (by kernel_rfl) (by kernel_rfl) (by kernel_rfl) (by kernel_rfl) (fun _ _ _ h => absurd h (HQP.out _ _ _)) (Or.inl ⟨by kernel_rfl, fun w hw => exec_row (t := 41) (fr := (0, 0)) rfl rfl (HC2.out w hw) dg_under rfl HOS.out⟩) hC0 ?_
    go_simp
    refine Rgt.take (i := 1) (x := .agg OA) rfl rfl (by kernel_rfl) (by kernel_rfl) (by kernel_rfl) (by kernel_rfl) (fun _ _ _ h => absurd h (HQP.out _ _ _)) (Or.inl ⟨by kernel_rfl, fun w hw => exec_row (t := 41) (fr := (0, 0)) rfl rfl (HC2.out w hw) dg_under rfl HOS.out⟩) hC0 ?_
    go_simp
    refine Rgt.take (i := 2) (x := .slice o P c) rfl rfl (by kernel_rfl) (by kernel_rfl) (by kernel_rfl) (by kernel_rfl) (fun _ _ _ h => absurd h (HQP.out _ _ _)) (Or.inl ⟨by kernel_rfl, fun w hw => by (go_simp <;> with_reducible rfl)⟩) hC0 ?_
    go_simp
    obtain ⟨V0, hV0⟩ : ∃ V, W3.drew = V := ⟨_, rfl⟩
    rw [hV0] at HB0 hC0 ⊢
    clear hV0
    have HBV0 := HB0.out
    refine Rgt.ready3 (i := 3) (j := 4) (k := 5) (by kernel_rfl) rfl rfl rfl (by kernel_rfl) (by kernel_rfl) (by kernel_rfl) (fun K hK => ?_) (fun K hK => ?_) (fun K hK => ?_)
    · go_simp
      obtain ⟨px, hpx⟩ : ∃ p, V0.heap.size = p := ⟨_, rfl⟩
      obtain ⟨V1, hV1⟩ : ∃ V, V0.alloc (.cells Z 41) = V := ⟨_, rfl⟩
      have hbV1 : Below V0.heap.size V0 V1 := by rw [← hV1]; exact new12 _ _
      have HSV1 : Hid (V1.heap.size = px + 1) := Lib.hid (by rw [← hV1, World.size_alloc, hpx])
      have hxpx : V1.heap[px]? = some (.cells Z 41 (0, 0)) := by rw [← hV1, ← hpx]; exact World.alloc_heap_new V0 _
      rw [hV1, hpx]
      have HBV1 := Kit.step HBV0 hbV1
      have hCV1 := HCB.out _ HBV1
      refine hK _ _ hCV1 ?_
      clear hK K
      refine Rgt.ready2 (i := 4) (j := 5) (by kernel_rfl) rfl rfl (by kernel_rfl) (by kernel_rfl) (fun K hK => ?_) (fun K hK => ?_)
      · go_simp
        obtain ⟨py, hpy⟩ : ∃ p, V1.heap.size = p := ⟨_, rfl⟩
        obtain ⟨V2, hV2⟩ : ∃ V, V1.alloc (.cells Z 41) = V := ⟨_, rfl⟩
        have hbV2 : Below V1.heap.size V1 V2 := by rw [← hV2]; exact new12 _ _
        have HSV2 : Hid (V2.heap.size = py + 1) := Lib.hid (by rw [← hV2, World.size_alloc, hpy])
        have hxpy : V2.heap[py]? = some (.cells Z 41 (0, 0)) := by rw [← hV2, ← hpy]; exact World.alloc_heap_new V1 _
        rw [hV2, hpy]
        have HBV2 := Kit.step HBV1 hbV2
        have hCV2 := HCB.out _ HBV2
        refine hK _ _ hCV2 ?_
        clear hK K
        refine Rgt.ready (i := 5) (by kernel_rfl) rfl (by kernel_rfl) (fun K hK => ?_)
        go_simp
        obtain ⟨pz, hpz⟩ : ∃ p, V2.heap.size = p := ⟨_, rfl⟩
        obtain ⟨V3, hV3⟩ : ∃ V, V2.alloc (.cells #[.slice none 0 0] 32) = V := ⟨_, rfl⟩
        have hbV3 : Below V2.heap.size V2 V3 := by rw [← hV3]; exact new12 _ _
        have HSV3 : Hid (V3.heap.size = pz + 1) := Lib.hid (by rw [← hV3, World.size_alloc, hpz])
        have hxpz : V3.heap[pz]? = some (.cells #[.slice none 0 0] 32 (0, 0)) := by rw [← hV3, ← hpz]; exact World.alloc_heap_new V2 _
        rw [hV3, hpz]
        have HBV3 := Kit.step HBV2 hbV3
        have hCV3 := HCB.out _ HBV3
        refine hK _ _ hCV3 ?_
        clear hK K
        have hsV1 := HSV1.out
        have hsV2 := HSV2.out
        have hsV3 := HSV3.out
        have hxxpx : V3.heap[px]? = some (.cells Z 41 (0, 0)) := by rw [hbV3.block px (by have := hbV2.size; omega), hbV2.block px (by omega)]; exact hxpx
        have hxxpy : V3.heap[py]? = some (.cells Z 41 (0, 0)) := by rw [hbV3.block py (by omega)]; exact hxpy
        have hxxpz := hxpz
        have hge : g + 1 + 1 + 1 ≤ px ∧ g + 1 + 1 + 1 ≤ py ∧ g + 1 + 1 + 1 ≤ pz := by
          have h1 := HB0.out.size
          have h2 := HSS.out.2.2
          have h3 := hbV1.size
          have h4 := hbV2.size
          omega
        have hne : px ≠ py ∧ px ≠ pz ∧ py ≠ pz := by
          have h3 := hbV2.size
          have h4 := hbV3.size
          omega
        have hC4 : C (V3.setRow px OA) := HCS.out _ px OA hge.1 hCV3
        have hy4 : (V3.setRow px OA).heap[py]? = some (.cells Z 41 (0, 0)) := by rw [setRow_other V3 px py OA (Ne.symm hne.1)]; exact hxxpy
        have hC5 : C ((V3.setRow px OA).setRow py OA) := HCS.out _ py OA hge.2.1 hC4
        have hz5 : Boxed ((V3.setRow px OA).setRow py OA) pz 32 (.slice none 0 0) := by unfold Boxed; rw [setRow_other _ py pz OA (Ne.symm hne.2.2), setRow_other _ px pz OA (Ne.symm hne.2.1)]; exact hxxpz
        have hC6 : C (((V3.setRow px OA).setRow py OA).setCell ⟨pz, 0, none⟩ (.slice o P c)) := HCX.out _ pz _ hge.2.2 hC5
        have hcz := hz5.cell
        have hfz := hz5.frozen
        have HZX := Lib.hid hxxpx
        have HZY := Lib.hid hy4
        have HFIN : Hid ((((V3.setRow px OA).setRow py OA).setCell ⟨pz, 0, none⟩ (.slice o P c)).heap[px]? = some (.cells OA 41 (0, 0)) ∧ (((V3.setRow px OA).setRow py OA).setCell ⟨pz, 0, none⟩ (.slice o P c)).heap[py]? = some (.cells OA 41 (0, 0)) ∧ Boxed (((V3.setRow px OA).setRow py OA).setCell ⟨pz, 0, none⟩ (.slice o P c)) pz 32 (.slice o P c) ∧ Below W3.heap.size W3 (((V3.setRow px OA).setRow py OA).setCell ⟨pz, 0, none⟩ (.slice o P c))) := Lib.hid (by
          refine ⟨?_, ?_, hz5.set _, ((HBV3.trans (below_row (by have := HSS.out.2.2; omega))).trans (below_row (by have := HSS.out.2.2; omega))).setCell (p := ⟨pz, 0, none⟩) (show W3.heap.size ≤ pz by have := HSS.out.2.2; omega) _⟩
          · rw [Below.heap_setCell _ _ _ px (fun e => hne.2.1 e), setRow_other _ py px OA hne.1]; exact setRow_heap _ _ _ _ _ _ hxxpx
          · rw [Below.heap_setCell _ _ _ py (fun e => hne.2.2 e)]; exact setRow_heap _ _ _ _ _ _ hy4)
        have HNE := Lib.hid (And.intro hne hge)
        clear hpx hpy hpz hV1 hV2 hV3 hbV1 hbV2 hbV3 hsV1 hsV2 hsV3 hxpx hxpy hxpz hxxpx hxxpy hxxpz hy4 hz5 HBV1 HBV2 HBV3 hne hge
        refine Rgt.ready (i := 6) (by kernel_rfl) rfl (by kernel_rfl) (fun K hK => ?_)
        refine wp_store_row 41 (.tmp 10) (.tmp 15) rfl px OA rfl rfl 41 Z HZX.out HOS.out HOZ.out HOO.out (hK _ _ hC4 ?_)
        clear hK K
        refine Rgt.ready (i := 7) (by kernel_rfl) rfl (by kernel_rfl) (fun K hK => ?_)
        refine wp_store_row 41 (.tmp 11) (.tmp 16) rfl py OA rfl rfl 41 Z HZY.out HOS.out HOZ.out HOO.out (hK _ _ hC5 ?_)
        clear hK K
        refine Rgt.ready (i := 8) (by kernel_rfl) rfl (by kernel_rfl) (fun K hK => ?_)
        go_simp
        refine hK _ _ hC6 ?_
        clear hK K
        refine Rgt.done (by kernel_rfl) ?_ _
        obtain ⟨⟨q1, q2, q3⟩, q4, q5, q6⟩ := HNE.out
        obtain ⟨q7, q8, q9, q10⟩ := HFIN.out
        exact HQ2.out _ _ ⟨px, py, pz, q1, q2, q3, q4, q5, q6, q7, q8, q9, q10, rfl⟩
      · go_simp
        obtain ⟨pz, hpz⟩ : ∃ p, V1.heap.size = p := ⟨_, rfl⟩
        obtain ⟨V2, hV2⟩ : ∃ V, V1.alloc (.cells #[.slice none 0 0] 32) = V := ⟨_, rfl⟩
        have hbV2 : Below V1.heap.size V1 V2 := by rw [← hV2]; exact new12 _ _
        have HSV2 : Hid (V2.heap.size = pz + 1) := Lib.hid (by rw [← hV2, World.size_alloc, hpz])
        have hxpz : V2.heap[pz]? = some (.cells #[.slice none 0 0] 32 (0, 0)) := by rw [← hV2, ← hpz]; exact World.alloc_heap_new V1 _
        rw [hV2, hpz]
        have HBV2 := Kit.step HBV1 hbV2
        have hCV2 := HCB.out _ HBV2
        refine hK _ _ hCV2 ?_
        clear hK K
        refine Rgt.ready (i := 4) (by kernel_rfl) rfl (by kernel_rfl) (fun K hK => ?_)
        go_simp
        obtain ⟨py, hpy⟩ : ∃ p, V2.heap.size = p := ⟨_, rfl⟩
        obtain ⟨V3, hV3⟩ : ∃ V, V2.alloc (.cells Z 41) = V := ⟨_, rfl⟩
        have hbV3 : Below V2.heap.size V2 V3 := by rw [← hV3]; exact new12 _ _
        have HSV3 : Hid (V3.heap.size = py + 1) := Lib.hid (by rw [← hV3, World.size_alloc, hpy])
        have hxpy : V3.heap[py]? = some (.cells Z 41 (0, 0)) := by rw [← hV3, ← hpy]; exact World.alloc_heap_new V2 _
        rw [hV3, hpy]
        have HBV3 := Kit.step HBV2 hbV3
        have hCV3 := HCB.out _ HBV3
        refine hK _ _ hCV3 ?_
        clear hK K
        have hsV1 := HSV1.out
        have hsV2 := HSV2.out
        have hsV3 := HSV3.out
        have hxxpx : V3.heap[px]? = some (.cells Z 41 (0, 0)) := by rw [hbV3.block px (by have := hbV2.size; omega), hbV2.block px (by omega)]; exact hxpx
        have hxxpz : V3.heap[pz]? = some (.cells #[.slice none 0 0] 32 (0, 0)) := by rw [hbV3.block pz (by omega)]; exact hxpz
        have hxxpy := hxpy
        have hge : g + 1 + 1 + 1 ≤ px ∧ g + 1 + 1 + 1 ≤ py ∧ g + 1 + 1 + 1 ≤ pz := by
          have h1 := HB0.out.size
          have h2 := HSS.out.2.2
          have h3 := hbV1.size
          have h4 := hbV2.size
          omega
        have hne : px ≠ py ∧ px ≠ pz ∧ py ≠ pz := by
          have h3 := hbV2.size
          have h4 := hbV3.size
          omega
        have hC4 : C (V3.setRow px OA) := HCS.out _ px OA hge.1 hCV3
        have hy4 : (V3.setRow px OA).heap[py]? = some (.cells Z 41 (0, 0)) := by rw [setRow_other V3 px py OA (Ne.symm hne.1)]; exact hxxpy
        have hC5 : C ((V3.setRow px OA).setRow py OA) := HCS.out _ py OA hge.2.1 hC4
        have hz5 : Boxed ((V3.setRow px OA).setRow py OA) pz 32 (.slice none 0 0) := by unfold Boxed; rw [setRow_other _ py pz OA (Ne.symm hne.2.2), setRow_other _ px pz OA (Ne.symm hne.2.1)]; exact hxxpz
        have hC6 : C (((V3.setRow px OA).setRow py OA).setCell ⟨pz, 0, none⟩ (.slice o P c)) := HCX.out _ pz _ hge.2.2 hC5
        have hcz := hz5.cell
        have hfz := hz5.frozen
        have HZX := Lib.hid hxxpx
        have HZY := Lib.hid hy4
        have HFIN : Hid ((((V3.setRow px OA).setRow py OA).setCell ⟨pz, 0, none⟩ (.slice o P c)).heap[px]? = some (.cells OA 41 (0, 0)) ∧ (((V3.setRow px OA).setRow py OA).setCell ⟨pz, 0, none⟩ (.slice o P c)).heap[py]? = some (.cells OA 41 (0, 0)) ∧ Boxed (((V3.setRow px OA).setRow py OA).setCell ⟨pz, 0, none⟩ (.slice o P c)) pz 32 (.slice o P c) ∧ Below W3.heap.size W3 (((V3.setRow px OA).setRow py OA).setCell ⟨pz, 0, none⟩ (.slice o P c))) := Lib.hid (by
          refine ⟨?_, ?_, hz5.set _, ((HBV3.trans (below_row (by have := HSS.out.2.2; omega))).trans (below_row (by have := HSS.out.2.2; omega))).setCell (p := ⟨pz, 0, none⟩) (show W3.heap.size ≤ pz by have := HSS.out.2.2; omega) _⟩
          · rw [Below.heap_setCell _ _ _ px (fun e => hne.2.1 e), setRow_other _ py px OA hne.1]; exact setRow_heap _ _ _ _ _ _ hxxpx
          · rw [Below.heap_setCell _ _ _ py (fun e => hne.2.2 e)]; exact setRow_heap _ _ _ _ _ _ hy4)
        have HNE := Lib.hid (And.intro hne hge)
        clear hpx hpy hpz hV1 hV2 hV3 hbV1 hbV2 hbV3 hsV1 hsV2 hsV3 hxpx hxpy hxpz hxxpx hxxpz hxxpy hy4 hz5 HBV1 HBV2 HBV3 hne hge
        refine Rgt.ready (i := 6) (by kernel_rfl) rfl (by kernel_rfl) (fun K hK => ?_)
        refine wp_store_row 41 (.tmp 10) (.tmp 15) rfl px OA rfl rfl 41 Z HZX.out HOS.out HOZ.out HOO.out (hK _ _ hC4 ?_)
        clear hK K
        refine Rgt.ready (i := 7) (by kernel_rfl) rfl (by kernel_rfl) (fun K hK => ?_)
        refine wp_store_row 41 (.tmp 11) (.tmp 16) rfl py OA rfl rfl 41 Z HZY.out HOS.out HOZ.out HOO.out (hK _ _ hC5 ?_)
        clear hK K
        refine Rgt.ready (i := 8) (by kernel_rfl) rfl (by kernel_rfl) (fun K hK => ?_)
        go_simp
        refine hK _ _ hC6 ?_
        clear hK K
        refine Rgt.done (by kernel_rfl) ?_ _
        obtain ⟨⟨q1, q2, q3⟩, q4, q5, q6⟩ := HNE.out
        obtain ⟨q7, q8, q9, q10⟩ := HFIN.out
        exact HQ2.out _ _ ⟨px, py, pz, q1, q2, q3, q4, q5, q6, q7, q8, q9, q10, rfl⟩
    · go_simp
      obtain ⟨py, hpy⟩ : ∃ p, V0.heap.size = p := ⟨_, rfl⟩
      obtain ⟨V1, hV1⟩ : ∃ V, V0.alloc (.cells Z 41) = V := ⟨_, rfl⟩
      have hbV1 : Below V0.heap.size V0 V1 := by rw [← hV1]; exact new12 _ _
      have HSV1 : Hid (V1.heap.size = py + 1) := Lib.hid (by rw [← hV1, World.size_alloc, hpy])
      have hxpy : V1.heap[py]? = some (.cells Z 41 (0, 0)) := by rw [← hV1, ← hpy]; exact World.alloc_heap_new V0 _
      rw [hV1, hpy]
      have HBV1 := Kit.step HBV0 hbV1
      have hCV1 := HCB.out _ HBV1
      refine hK _ _ hCV1 ?_
      clear hK K
      refine Rgt.ready2 (i := 3) (j := 5) (by kernel_rfl) rfl rfl (by kernel_rfl) (by kernel_rfl) (fun K hK => ?_) (fun K hK => ?_)
      · go_simp
        obtain ⟨px, hpx⟩ : ∃ p, V1.heap.size = p := ⟨_, rfl⟩
        obtain ⟨V2, hV2⟩ : ∃ V, V1.alloc (.cells Z 41) = V := ⟨_, rfl⟩
        have hbV2 : Below V1.heap.size V1 V2 := by rw [← hV2]; exact new12 _ _
        have HSV2 : Hid (V2.heap.size = px + 1) := Lib.hid (by rw [← hV2, World.size_alloc, hpx])
        have hxpx : V2.heap[px]? = some (.cells Z 41 (0, 0)) := by rw [← hV2, ← hpx]; exact World.alloc_heap_new V1 _
        rw [hV2, hpx]
        have HBV2 := Kit.step HBV1 hbV2
        have hCV2 := HCB.out _ HBV2
        refine hK _ _ hCV2 ?_
        clear hK K
        refine Rgt.ready (i := 5) (by kernel_rfl) rfl (by kernel_rfl) (fun K hK => ?_)
        go_simp
        obtain ⟨pz, hpz⟩ : ∃ p, V2.heap.size = p := ⟨_, rfl⟩
        obtain ⟨V3, hV3⟩ : ∃ V, V2.alloc (.cells #[.slice none 0 0] 32) = V := ⟨_, rfl⟩
        have hbV3 : Below V2.heap.size V2 V3 := by rw [← hV3]; exact new12 _ _
        have HSV3 : Hid (V3.heap.size = pz + 1) := Lib.hid (by rw [← hV3, World.size_alloc, hpz])
        have hxpz : V3.heap[pz]? = some (.cells #[.slice none 0 0] 32 (0, 0)) := by rw [← hV3, ← hpz]; exact World.alloc_heap_new V2 _
        rw [hV3, hpz]
        have HBV3 := Kit.step HBV2 hbV3
        have hCV3 := HCB.out _ HBV3
        refine hK _ _ hCV3 ?_
        clear hK K
        have hsV1 := HSV1.out
        have hsV2 := HSV2.out
        have hsV3 := HSV3.out
        have hxxpy : V3.heap[py]? = some (.cells Z 41 (0, 0)) := by rw [hbV3.block py (by have := hbV2.size; omega), hbV2.block py (by omega)]; exact hxpy
        have hxxpx : V3.heap[px]? = some (.cells Z 41 (0, 0)) := by rw [hbV3.block px (by omega)]; exact hxpx
        have hxxpz := hxpz
        have hge : g + 1 + 1 + 1 ≤ px ∧ g + 1 + 1 + 1 ≤ py ∧ g + 1 + 1 + 1 ≤ pz := by
          have h1 := HB0.out.size
          have h2 := HSS.out.2.2
          have h3 := hbV1.size
          have h4 := hbV2.size
          omega
        have hne : px ≠ py ∧ px ≠ pz ∧ py ≠ pz := by
          have h3 := hbV2.size
          have h4 := hbV3.size
          omega
        have hC4 : C (V3.setRow px OA) := HCS.out _ px OA hge.1 hCV3
        have hy4 : (V3.setRow px OA).heap[py]? = some (.cells Z 41 (0, 0)) := by rw [setRow_other V3 px py OA (Ne.symm hne.1)]; exact hxxpy
        have hC5 : C ((V3.setRow px OA).setRow py OA) := HCS.out _ py OA hge.2.1 hC4
        have hz5 : Boxed ((V3.setRow px OA).setRow py OA) pz 32 (.slice none 0 0) := by unfold Boxed; rw [setRow_other _ py pz OA (Ne.symm hne.2.2), setRow_other _ px pz OA (Ne.symm hne.2.1)]; exact hxxpz
        have hC6 : C (((V3.setRow px OA).setRow py OA).setCell ⟨pz, 0, none⟩ (.slice o P c)) := HCX.out _ pz _ hge.2.2 hC5
        have hcz := hz5.cell
        have hfz := hz5.frozen
        have HZX := Lib.hid hxxpx
        have HZY := Lib.hid hy4
        have HFIN : Hid ((((V3.setRow px OA).setRow py OA).setCell ⟨pz, 0, none⟩ (.slice o P c)).heap[px]? = some (.cells OA 41 (0, 0)) ∧ (((V3.setRow px OA).setRow py OA).setCell ⟨pz, 0, none⟩ (.slice o P c)).heap[py]? = some (.cells OA 41 (0, 0)) ∧ Boxed (((V3.setRow px OA).setRow py OA).setCell ⟨pz, 0, none⟩ (.slice o P c)) pz 32 (.slice o P c) ∧ Below W3.heap.size W3 (((V3.setRow px OA).setRow py OA).setCell ⟨pz, 0, none⟩ (.slice o P c))) := Lib.hid (by
          refine ⟨?_, ?_, hz5.set _, ((HBV3.trans (below_row (by have := HSS.out.2.2; omega))).trans (below_row (by have := HSS.out.2.2; omega))).setCell (p := ⟨pz, 0, none⟩) (show W3.heap.size ≤ pz by have := HSS.out.2.2; omega) _⟩
          · rw [Below.heap_setCell _ _ _ px (fun e => hne.2.1 e), setRow_other _ py px OA hne.1]; exact setRow_heap _ _ _ _ _ _ hxxpx
          · rw [Below.heap_setCell _ _ _ py (fun e => hne.2.2 e)]; exact setRow_heap _ _ _ _ _ _ hy4)
        have HNE := Lib.hid (And.intro hne hge)
        clear hpx hpy hpz hV1 hV2 hV3 hbV1 hbV2 hbV3 hsV1 hsV2 hsV3 hxpx hxpy hxpz hxxpy hxxpx hxxpz hy4 hz5 HBV1 HBV2 HBV3 hne hge
        refine Rgt.ready (i := 6) (by kernel_rfl) rfl (by kernel_rfl) (fun K hK => ?_)
        refine wp_store_row 41 (.tmp 10) (.tmp 15) rfl px OA rfl rfl 41 Z HZX.out HOS.out HOZ.out HOO.out (hK _ _ hC4 ?_)
        clear hK K
        refine Rgt.ready (i := 7) (by kernel_rfl) rfl (by kernel_rfl) (fun K hK => ?_)
        refine wp_store_row 41 (.tmp 11) (.tmp 16) rfl py OA rfl rfl 41 Z HZY.out HOS.out HOZ.out HOO.out (hK _ _ hC5 ?_)
        clear hK K
        refine Rgt.ready (i := 8) (by kernel_rfl) rfl (by kernel_rfl) (fun K hK => ?_)
        go_simp
        refine hK _ _ hC6 ?_
        clear hK K
        refine Rgt.done (by kernel_rfl) ?_ _
        obtain ⟨⟨q1, q2, q3⟩, q4, q5, q6⟩ := HNE.out
        obtain ⟨q7, q8, q9, q10⟩ := HFIN.out
        exact HQ2.out _ _ ⟨px, py, pz, q1, q2, q3, q4, q5, q6, q7, q8, q9, q10, rfl⟩
      · go_simp
        obtain ⟨pz, hpz⟩ : ∃ p, V1.heap.size = p := ⟨_, rfl⟩
        obtain ⟨V2, hV2⟩ : ∃ V, V1.alloc (.cells #[.slice none 0 0] 32) = V := ⟨_, rfl⟩
        have hbV2 : Below V1.heap.size V1 V2 := by rw [← hV2]; exact new12 _ _
        have HSV2 : Hid (V2.heap.size = pz + 1) := Lib.hid (by rw [← hV2, World.size_alloc, hpz])
        have hxpz : V2.heap[pz]? = some (.cells #[.slice none 0 0] 32 (0, 0)) := by rw [← hV2, ← hpz]; exact World.alloc_heap_new V1 _
        rw [hV2, hpz]
        have HBV2 := Kit.step HBV1 hbV2
        have hCV2 := HCB.out _ HBV2
        refine hK _ _ hCV2 ?_
        clear hK K
        refine Rgt.ready (i := 3) (by kernel_rfl) rfl (by kernel_rfl) (fun K hK => ?_)
        go_simp
        obtain ⟨px, hpx⟩ : ∃ p, V2.heap.size = p := ⟨_, rfl⟩
        obtain ⟨V3, hV3⟩ : ∃ V, V2.alloc (.cells Z 41) = V := ⟨_, rfl⟩
        have hbV3 : Below V2.heap.size V2 V3 := by rw [← hV3]; exact new12 _ _
        have HSV3 : Hid (V3.heap.size = px + 1) := Lib.hid (by rw [← hV3, World.size_alloc, hpx])
        have hxpx : V3.heap[px]? = some (.cells Z 41 (0, 0)) := by rw [← hV3, ← hpx]; exact World.alloc_heap_new V2 _
        rw [hV3, hpx]
        have HBV3 := Kit.step HBV2 hbV3
        have hCV3 := HCB.out _ HBV3
        refine hK _ _ hCV3 ?_
        clear hK K
        have hsV1 := HSV1.out
        have hsV2 := HSV2.out
        have hsV3 := HSV3.out
        have hxxpy : V3.heap[py]? = some (.cells Z 41 (0, 0)) := by rw [hbV3.block py (by have := hbV2.size; omega), hbV2.block py (by omega)]; exact hxpy
        have hxxpz : V3.heap[pz]? = some (.cells #[.slice none 0 0] 32 (0, 0)) := by rw [hbV3.block pz (by omega)]; exact hxpz
        have hxxpx := hxpx
        have hge : g + 1 + 1 + 1 ≤ px ∧ g + 1 + 1 + 1 ≤ py ∧ g + 1 + 1 + 1 ≤ pz := by
          have h1 := HB0.out.size
          have h2 := HSS.out.2.2
          have h3 := hbV1.size
          have h4 := hbV2.size
          omega
        have hne : px ≠ py ∧ px ≠ pz ∧ py ≠ pz := by
          have h3 := hbV2.size
          have h4 := hbV3.size
          omega
        have hC4 : C (V3.setRow px OA) := HCS.out _ px OA hge.1 hCV3
        have hy4 : (V3.setRow px OA).heap[py]? = some (.cells Z 41 (0, 0)) := by rw [setRow_other V3 px py OA (Ne.symm hne.1)]; exact hxxpy
        have hC5 : C ((V3.setRow px OA).setRow py OA) := HCS.out _ py OA hge.2.1 hC4
        have hz5 : Boxed ((V3.setRow px OA).setRow py OA) pz 32 (.slice none 0 0) := by unfold Boxed; rw [setRow_other _ py pz OA (Ne.symm hne.2.2), setRow_other _ px pz OA (Ne.symm hne.2.1)]; exact hxxpz
        have hC6 : C (((V3.setRow px OA).setRow py OA).setCell ⟨pz, 0, none⟩ (.slice o P c)) := HCX.out _ pz _ hge.2.2 hC5
        have hcz := hz5.cell
        have hfz := hz5.frozen
        have HZX := Lib.hid hxxpx
        have HZY := Lib.hid hy4
        have HFIN : Hid ((((V3.setRow px OA).setRow py OA).setCell ⟨pz, 0, none⟩ (.slice o P c)).heap[px]? = some (.cells OA 41 (0, 0)) ∧ (((V3.setRow px OA).setRow py OA).setCell ⟨pz, 0, none⟩ (.slice o P c)).heap[py]? = some (.cells OA 41 (0, 0)) ∧ Boxed (((V3.setRow px OA).setRow py OA).setCell ⟨pz, 0, none⟩ (.slice o P c)) pz 32 (.slice o P c) ∧ Below W3.heap.size W3 (((V3.setRow px OA).setRow py OA).setCell ⟨pz, 0, none⟩ (.slice o P c))) := Lib.hid (by
          refine ⟨?_, ?_, hz5.set _, ((HBV3.trans (below_row (by have := HSS.out.2.2; omega))).trans (below_row (by have := HSS.out.2.2; omega))).setCell (p := ⟨pz, 0, none⟩) (show W3.heap.size ≤ pz by have := HSS.out.2.2; omega) _⟩
          · rw [Below.heap_setCell _ _ _ px (fun e => hne.2.1 e), setRow_other _ py px OA hne.1]; exact setRow_heap _ _ _ _ _ _ hxxpx
          · rw [Below.heap_setCell _ _ _ py (fun e => hne.2.2 e)]; exact setRow_heap _ _ _ _ _ _ hy4)
        have HNE := Lib.hid (And.intro hne hge)
        clear hpx hpy hpz hV1 hV2 hV3 hbV1 hbV2 hbV3 hsV1 hsV2 hsV3 hxpx hxpy hxpz hxxpy hxxpz hxxpx hy4 hz5 HBV1 HBV2 HBV3 hne hge
        refine Rgt.ready (i := 6) (by kernel_rfl) rfl (by kernel_rfl) (fun K hK => ?_)
        refine wp_store_row 41 (.tmp 10) (.tmp 15) rfl px OA rfl rfl 41 Z HZX.out HOS.out HOZ.out HOO.out (hK _ _ hC4 ?_)
        clear hK K
        refine Rgt.ready (i := 7) (by kernel_rfl) rfl (by kernel_rfl) (fun K hK => ?_)
        refine wp_store_row 41 (.tmp 11) (.tmp 16) rfl py OA rfl rfl 41 Z HZY.out HOS.out HOZ.out HOO.out (hK _ _ hC5 ?_)
        clear hK K
        refine Rgt.ready (i := 8) (by kernel_rfl) rfl (by kernel_rfl) (fun K hK => ?_)
        go_simp
        refine hK _ _ hC6 ?_
        clear hK K
        refine Rgt.done (by kernel_rfl) ?_ _
        obtain ⟨⟨q1, q2, q3⟩, q4, q5, q6⟩ := HNE.out
        obtain ⟨q7, q8, q9, q10⟩ := HFIN.out
        exact HQ2.out _ _ ⟨px, py, pz, q1, q2, q3, q4, q5, q6, q7, q8, q9, q10, rfl⟩
    · go_simp
      obtain ⟨pz, hpz⟩ : ∃ p, V0.heap.size = p := ⟨_, rfl⟩
      obtain ⟨V1, hV1⟩ : ∃ V, V0.alloc (.cells #[.slice none 0 0] 32) = V := ⟨_, rfl⟩
      have hbV1 : Below V0.heap.size V0 V1 := by rw [← hV1]; exact new12 _ _
      have HSV1 : Hid (V1.heap.size = pz + 1) := Lib.hid (by rw [← hV1, World.size_alloc, hpz])
      have hxpz : V1.heap[pz]? = some (.cells #[.slice none 0 0] 32 (0, 0)) := by rw [← hV1, ← hpz]; exact World.alloc_heap_new V0 _
      rw [hV1, hpz]
      have HBV1 := Kit.step HBV0 hbV1
      have hCV1 := HCB.out _ HBV1
      refine hK _ _ hCV1 ?_
      clear hK K
      refine Rgt.ready2 (i := 3) (j := 4) (by kernel_rfl) rfl rfl (by kernel_rfl) (by kernel_rfl) (fun K hK => ?_) (fun K hK => ?_)
      · go_simp
        obtain ⟨px, hpx⟩ : ∃ p, V1.heap.size = p := ⟨_, rfl⟩
        obtain ⟨V2, hV2⟩ : ∃ V, V1.alloc (.cells Z 41) = V := ⟨_, rfl⟩
        have hbV2 : Below V1.heap.size V1 V2 := by rw [← hV2]; exact new12 _ _
        have HSV2 : Hid (V2.heap.size = px + 1) := Lib.hid (by rw [← hV2, World.size_alloc, hpx])
        have hxpx : V2.heap[px]? = some (.cells Z 41 (0, 0)) := by rw [← hV2, ← hpx]; exact World.alloc_heap_new V1 _
        rw [hV2, hpx]
        have HBV2 := Kit.step HBV1 hbV2
        have hCV2 := HCB.out _ HBV2
        refine hK _ _ hCV2 ?_
        clear hK K
        refine Rgt.ready (i := 4) (by kernel_rfl) rfl (by kernel_rfl) (fun K hK => ?_)
        go_simp
        obtain ⟨py, hpy⟩ : ∃ p, V2.heap.size = p := ⟨_, rfl⟩
        obtain ⟨V3, hV3⟩ : ∃ V, V2.alloc (.cells Z 41) = V := ⟨_, rfl⟩
        have hbV3 : Below V2.heap.size V2 V3 := by rw [← hV3]; exact new12 _ _
        have HSV3 : Hid (V3.heap.size = py + 1) := Lib.hid (by rw [← hV3, World.size_alloc, hpy])
        have hxpy : V3.heap[py]? = some (.cells Z 41 (0, 0)) := by rw [← hV3, ← hpy]; exact World.alloc_heap_new V2 _
        rw [hV3, hpy]
        have HBV3 := Kit.step HBV2 hbV3
        have hCV3 := HCB.out _ HBV3
        refine hK _ _ hCV3 ?_
        clear hK K
        have hsV1 := HSV1.out
        have hsV2 := HSV2.out
        have hsV3 := HSV3.out
        have hxxpz : V3.heap[pz]? = some (.cells #[.slice none 0 0] 32 (0, 0)) := by rw [hbV3.block pz (by have := hbV2.size; omega), hbV2.block pz (by omega)]; exact hxpz
        have hxxpx : V3.heap[px]? = some (.cells Z 41 (0, 0)) := by rw [hbV3.block px (by omega)]; exact hxpx
        have hxxpy := hxpy
        have hge : g + 1 + 1 + 1 ≤ px ∧ g + 1 + 1 + 1 ≤ py ∧ g + 1 + 1 + 1 ≤ pz := by
          have h1 := HB0.out.size
          have h2 := HSS.out.2.2
          have h3 := hbV1.size
          have h4 := hbV2.size
          omega
        have hne : px ≠ py ∧ px ≠ pz ∧ py ≠ pz := by
          have h3 := hbV2.size
          have h4 := hbV3.size
          omega
        have hC4 : C (V3.setRow px OA) := HCS.out _ px OA hge.1 hCV3
        have hy4 : (V3.setRow px OA).heap[py]? = some (.cells Z 41 (0, 0)) := by rw [setRow_other V3 px py OA (Ne.symm hne.1)]; exact hxxpy
        have hC5 : C ((V3.setRow px OA).setRow py OA) := HCS.out _ py OA hge.2.1 hC4
        have hz5 : Boxed ((V3.setRow px OA).setRow py OA) pz 32 (.slice none 0 0) := by unfold Boxed; rw [setRow_other _ py pz OA (Ne.symm hne.2.2), setRow_other _ px pz OA (Ne.symm hne.2.1)]; exact hxxpz
        have hC6 : C (((V3.setRow px OA).setRow py OA).setCell ⟨pz, 0, none⟩ (.slice o P c)) := HCX.out _ pz _ hge.2.2 hC5
        have hcz := hz5.cell
        have hfz := hz5.frozen
        have HZX := Lib.hid hxxpx
        have HZY := Lib.hid hy4
        have HFIN : Hid ((((V3.setRow px OA).setRow py OA).setCell ⟨pz, 0, none⟩ (.slice o P c)).heap[px]? = some (.cells OA 41 (0, 0)) ∧ (((V3.setRow px OA).setRow py OA).setCell ⟨pz, 0, none⟩ (.slice o P c)).heap[py]? = some (.cells OA 41 (0, 0)) ∧ Boxed (((V3.setRow px OA).setRow py OA).setCell ⟨pz, 0, none⟩ (.slice o P c)) pz 32 (.slice o P c) ∧ Below W3.heap.size W3 (((V3.setRow px OA).setRow py OA).setCell ⟨pz, 0, none⟩ (.slice o P c))) := Lib.hid (by
          refine ⟨?_, ?_, hz5.set _, ((HBV3.trans (below_row (by have := HSS.out.2.2; omega))).trans (below_row (by have := HSS.out.2.2; omega))).setCell (p := ⟨pz, 0, none⟩) (show W3.heap.size ≤ pz by have := HSS.out.2.2; omega) _⟩
          · rw [Below.heap_setCell _ _ _ px (fun e => hne.2.1 e), setRow_other _ py px OA hne.1]; exact setRow_heap _ _ _ _ _ _ hxxpx
          · rw [Below.heap_setCell _ _ _ py (fun e => hne.2.2 e)]; exact setRow_heap _ _ _ _ _ _ hy4)
        have HNE := Lib.hid (And.intro hne hge)
        clear hpx hpy hpz hV1 hV2 hV3 hbV1 hbV2 hbV3 hsV1 hsV2 hsV3 hxpx hxpy hxpz hxxpz hxxpx hxxpy hy4 hz5 HBV1 HBV2 HBV3 hne hge
        refine Rgt.ready (i := 6) (by kernel_rfl) rfl (by kernel_rfl) (fun K hK => ?_)
        refine wp_store_row 41 (.tmp 10) (.tmp 15) rfl px OA rfl rfl 41 Z HZX.out HOS.out HOZ.out HOO.out (hK _ _ hC4 ?_)
        clear hK K
        refine Rgt.ready (i := 7) (by kernel_rfl) rfl (by kernel_rfl) (fun K hK => ?_)
        refine wp_store_row 41 (.tmp 11) (.tmp 16) rfl py OA rfl rfl 41 Z HZY.out HOS.out HOZ.out HOO.out (hK _ _ hC5 ?_)
        clear hK K
        refine Rgt.ready (i := 8) (by kernel_rfl) rfl (by kernel_rfl) (fun K hK => ?_)
        go_simp
        refine hK _ _ hC6 ?_
        clear hK K
        refine Rgt.done (by kernel_rfl) ?_ _
        obtain ⟨⟨q1, q2, q3⟩, q4, q5, q6⟩ := HNE.out
        obtain ⟨q7, q8, q9, q10⟩ := HFIN.out
        exact HQ2.out _ _ ⟨px, py, pz, q1, q2, q3, q4, q5, q6, q7, q8, q9, q10, rfl⟩
      · go_simp
        obtain ⟨py, hpy⟩ : ∃ p, V1.heap.size = p := ⟨_, rfl⟩
        obtain ⟨V2, hV2⟩ : ∃ V, V1.alloc (.cells Z 41) = V := ⟨_, rfl⟩
        have hbV2 : Below V1.heap.size V1 V2 := by rw [← hV2]; exact new12 _ _
        have HSV2 : Hid (V2.heap.size = py + 1) := Lib.hid (by rw [← hV2, World.size_alloc, hpy])
        have hxpy : V2.heap[py]? = some (.cells Z 41 (0, 0)) := by rw [← hV2, ← hpy]; exact World.alloc_heap_new V1 _
        rw [hV2, hpy]
        have HBV2 := Kit.step HBV1 hbV2
        have hCV2 := HCB.out _ HBV2
        refine hK _ _ hCV2 ?_
        clear hK K
        refine Rgt.ready (i := 3) (by kernel_rfl) rfl (by kernel_rfl) (fun K hK => ?_)
        go_simp
        obtain ⟨px, hpx⟩ : ∃ p, V2.heap.size = p := ⟨_, rfl⟩
        obtain ⟨V3, hV3⟩ : ∃ V, V2.alloc (.cells Z 41) = V := ⟨_, rfl⟩
        have hbV3 : Below V2.heap.size V2 V3 := by rw [← hV3]; exact new12 _ _
        have HSV3 : Hid (V3.heap.size = px + 1) := Lib.hid (by rw [← hV3, World.size_alloc, hpx])
        have hxpx : V3.heap[px]? = some (.cells Z 41 (0, 0)) := by rw [← hV3, ← hpx]; exact World.alloc_heap_new V2 _
        rw [hV3, hpx]
        have HBV3 := Kit.step HBV2 hbV3
        have hCV3 := HCB.out _ HBV3
        refine hK _ _ hCV3 ?_
        clear hK K
        have hsV1 := HSV1.out
        have hsV2 := HSV2.out
        have hsV3 := HSV3.out
        have hxxpz : V3.heap[pz]? = some (.cells #[.slice none 0 0] 32 (0, 0)) := by rw [hbV3.block pz (by have := hbV2.size; omega), hbV2.block pz (by omega)]; exact hxpz
        have hxxpy : V3.heap[py]? = some (.cells Z 41 (0, 0)) := by rw [hbV3.block py (by omega)]; exact hxpy
        have hxxpx := hxpx
        have hge : g + 1 + 1 + 1 ≤ px ∧ g + 1 + 1 + 1 ≤ py ∧ g + 1 + 1 + 1 ≤ pz := by
          have h1 := HB0.out.size
          have h2 := HSS.out.2.2
          have h3 := hbV1.size
          have h4 := hbV2.size
          omega
        have hne : px ≠ py ∧ px ≠ pz ∧ py ≠ pz := by
          have h3 := hbV2.size
          have h4 := hbV3.size
          omega
        have hC4 : C (V3.setRow px OA) := HCS.out _ px OA hge.1 hCV3
        have hy4 : (V3.setRow px OA).heap[py]? = some (.cells Z 41 (0, 0)) := by rw [setRow_other V3 px py OA (Ne.symm hne.1)]; exact hxxpy
        have hC5 : C ((V3.setRow px OA).setRow py OA) := HCS.out _ py OA hge.2.1 hC4
        have hz5 : Boxed ((V3.setRow px OA).setRow py OA) pz 32 (.slice none 0 0) := by unfold Boxed; rw [setRow_other _ py pz OA (Ne.symm hne.2.2), setRow_other _ px pz OA (Ne.symm hne.2.1)]; exact hxxpz
        have hC6 : C (((V3.setRow px OA).setRow py OA).setCell ⟨pz, 0, none⟩ (.slice o P c)) := HCX.out _ pz _ hge.2.2 hC5
        have hcz := hz5.cell
        have hfz := hz5.frozen
        have HZX := Lib.hid hxxpx
        have HZY := Lib.hid hy4
        have HFIN : Hid ((((V3.setRow px OA).setRow py OA).setCell ⟨pz, 0, none⟩ (.slice o P c)).heap[px]? = some (.cells OA 41 (0, 0)) ∧ (((V3.setRow px OA).setRow py OA).setCell ⟨pz, 0, none⟩ (.slice o P c)).heap[py]? = some (.cells OA 41 (0, 0)) ∧ Boxed (((V3.setRow px OA).setRow py OA).setCell ⟨pz, 0, none⟩ (.slice o P c)) pz 32 (.slice o P c) ∧ Below W3.heap.size W3 (((V3.setRow px OA).setRow py OA).setCell ⟨pz, 0, none⟩ (.slice o P c))) := Lib.hid (by
          refine ⟨?_, ?_, hz5.set _, ((HBV3.trans (below_row (by have := HSS.out.2.2; omega))).trans (below_row (by have := HSS.out.2.2; omega))).setCell (p := ⟨pz, 0, none⟩) (show W3.heap.size ≤ pz by have := HSS.out.2.2; omega) _⟩
          · rw [Below.heap_setCell _ _ _ px (fun e => hne.2.1 e), setRow_other _ py px OA hne.1]; exact setRow_heap _ _ _ _ _ _ hxxpx
          · rw [Below.heap_setCell _ _ _ py (fun e => hne.2.2 e)]; exact setRow_heap _ _ _ _ _ _ hy4)
        have HNE := Lib.hid (And.intro hne hge)
        clear hpx hpy hpz hV1 hV2 hV3 hbV1 hbV2 hbV3 hsV1 hsV2 hsV3 hxpx hxpy hxpz hxxpz hxxpy hxxpx hy4 hz5 HBV1 HBV2 HBV3 hne hge
        refine Rgt.ready (i := 6) (by kernel_rfl) rfl (by kernel_rfl) (fun K hK => ?_)
        refine wp_store_row 41 (.tmp 10) (.tmp 15) rfl px OA rfl rfl 41 Z HZX.out HOS.out HOZ.out HOO.out (hK _ _ hC4 ?_)
        clear hK K
        refine Rgt.ready (i := 7) (by kernel_rfl) rfl (by kernel_rfl) (fun K hK => ?_)
        refine wp_store_row 41 (.tmp 11) (.tmp 16) rfl py OA rfl rfl 41 Z HZY.out HOS.out HOZ.out HOO.out (hK _ _ hC5 ?_)
        clear hK K
        refine Rgt.ready (i := 8) (by kernel_rfl) rfl (by kernel_rfl) (fun K hK => ?_)
        go_simp
        refine hK _ _ hC6 ?_
        clear hK K
        refine Rgt.done (by kernel_rfl) ?_ _
        obtain ⟨⟨q1, q2, q3⟩, q4, q5, q6⟩ := HNE.out
        obtain ⟨q7, q8, q9, q10⟩ := HFIN.out
        exact HQ2.out _ _ ⟨px, py, pz, q1, q2, q3, q4, q5, q6, q7, q8, q9, q10, rfl⟩
  intro e b' X0 hq2
  rw [← hQ2] at hq2
  clear hQ2 Q2
  obtain ⟨rfl, px, py, pz, hxy, hxz, hyz, hgx, hgy, hgz, hx0, hy0, hz0, hbx, rfl⟩ := hq2
  dsimp only
  -- STOP2
  have hb0 := Kit.step HB3.out hbx
  obtain ⟨q, hq⟩ : ∃ q, X0.heap.size = q := ⟨_, rfl⟩
  obtain ⟨X1, hX1⟩ : ∃ X1, X0.alloc (.cells #[.int .i64 (m : Int)] 3) = X1 := ⟨_, rfl⟩
  obtain ⟨X2, hX2⟩ : ∃ X2, X1.alloc (.cells #[.int .i64 (n : Int)] 3) = X2 := ⟨_, rfl⟩
  have hb1 : Below X0.heap.size X0 X1 := by rw [← hX1]; exact new12 _ _
  have hb2 : Below X1.heap.size X1 X2 := by rw [← hX2]; exact new12 _ _
  have hs1 : X1.heap.size = q + 1 := by rw [← hX1, World.size_alloc, hq]
  have hXm : Boxed X1 q 3 (.int .i64 (m : Int)) := by rw [← hX1, ← hq]; exact Boxed.new _ _ _
  have hXn : Boxed X2 (q + 1) 3 (.int .i64 (n : Int)) := by rw [← hX2, ← hs1]; exact Boxed.new _ _ _
  have MT := mparts_any (m : Int) (n : Int) X0
  rw [hX1, hX2, hq] at MT
  have hb02 := Kit.step hb1 hb2
  have hxA : Arr X0 px 41 (bytesV old) := by unfold Arr; rw [HO.out.2.1]; exact hx0
  have hyA : Arr X0 py 41 (bytesV old) := by unfold Arr; rw [HO.out.2.1]; exact hy0
  have hf1 := HA1.out.1.later hbx HA1.out.1.lt
  have hf2 := HA1.out.2.later hbx HA1.out.2.lt
  have HI0 : Hid (MaI14 w old ps P m n g px py pz q [] o c X2) := Lib.hid
    ⟨hxA.later hb02 hxA.lt, hyA.later hb02 hyA.lt, boxed_later hz0 hb02, HR.out, hf1.later hb02 hf1.lt, hf2.later hb02 hf2.lt, boxed_later hXm hb2, hXn, Kit.step hb0 hb02⟩
  have HNE := Lib.hid (show MaN14 w g px py pz q from
    ⟨hxy, hxz, hyz, hgx, hgy, hgz, by rw [← hq]; exact hxA.lt, by rw [← hq]; exact hyA.lt, by rw [← hq]; exact hz0.lt, HG.out⟩)
  have HMT := Lib.hid MT
  clear hb0 hq hX1 hX2 hb1 hb2 hs1 hXm hXn MT hb02 hxA hyA hf1 hf2 hxy hxz hyz hgx hgy hgz hx0 hy0 hz0 hbx
  go_wp2_with fail
  refine HMT.out.mono ?_
  rintro e x2 ⟨rfl, rfl⟩
  rename World => X2
  clear HMT
  go_wp2_with fail
  refine Rf.range_toldA (α := Nat × Nat × Nat) (σ := List (Nat × Nat × Nat)) rfl (enters_of Tryd.func58 (by kernel_rfl) rfl) (fun x => #[ptV x]) (fun _ => rfl)
    (fun p X => ∃ o' c', MaI14 w old ps P m n g px py pz q p o' c' X)
    (fun c X => False)
    (fun p x p' X => p' = p ++ [x] ∧ p' <+: Da.ptt 0 m n true)
    [] (fun p => p = Da.ptt 0 m n true) ?hI ?hIx ?hV ?h0 ?hseq ?round ?done ?stop
  case hI => exact fun s X X' ⟨o', c', h⟩ k => ⟨o', c', h.nc k HI0.out.below.size⟩
  case hIx => exact fun c X X' h k => h
  case hV => exact fun s x s' X X' h k => h
  case h0 => exact ⟨_, _, HI0.out⟩
  case hseq =>
    intro l B Bx X hnc hi2 hB hk ht
    obtain ⟨o', c', hi2⟩ := hi2
    refine (parts_seq m n q (q + 1) HM.out.1 HM.out.2 (by omega) l (fun p X => (∃ o' c', MaI14 w old ps P m n g px py pz q p o' c' X) ∧ B X) Bx ?_ X hi2.bm hi2.bn ⟨⟨o', c', hi2⟩, hB⟩).mono ?_
    · exact fun p x Y hp hY => (ht p x (p ++ [x]) Y hY.1 hY.2 ⟨rfl, hp⟩).mono fun e X' h => h.imp (fun h => ⟨h.1, h.2.1, h.2.2⟩) (fun h => ⟨h.1, h.2⟩)
    · rintro e X' ⟨hv, (⟨h, hB⟩ | hx)⟩
      · exact ⟨hv, .inl ⟨_, rfl, h, hB⟩⟩
      · exact ⟨hv, .inr hx⟩
  case round =>
    rintro l p x p' X Z' To ⟨o1, c1, hI⟩ ⟨rfl, hp⟩ hsz HN' HR' HE'
    have hxin := Da.ptt_in n 0 m true HM.out.1 HM.out.2 x (hp.subset (by simp))
    have hplen := hp.length_le
    rw [List.length_append, List.length_singleton, HLEN.out] at hplen
    obtain ⟨k, hk⟩ : ∃ k, p.length = k := ⟨_, rfl⟩
    rw [hk] at hplen
    obtain ⟨r1, hr1⟩ : ∃ r1, P - k = r1 + 1 := ⟨P - k - 1, by omega⟩
    have hpsl : ps.length = P := HP.out.1
    have hdg : DgIs w o1 (ps.drop k) c1 := by have := hI.r; rwa [hk] at this
    obtain ⟨b1, off1, rfl, hb1lt, hrng⟩ := hdg.at_ 0 (by rw [List.length_drop]; omega)
    have hel := HR.out.all.at_ (i := k) (by omega)
    have hbi : bi (ps.drop k) 0 = bi ps k := by unfold bi; rw [List.getD_eq_getElem?_getD, List.getD_eq_getElem?_getD, List.getElem?_drop, Nat.add_zero]
    rw [Nat.zero_mul, Nat.add_zero, hbi] at hrng
    have hst := Da.gsf_snoc old p x ps (by rw [hk, hpsl]; omega)
    rw [hk] at hst
    obtain ⟨hl1, hl2⟩ := Da.gsf_all32 HO.out.1 ps HR.out.all p
    obtain ⟨a1, ha1⟩ : ∃ a1, (Da.gsf old p ps).1 = a1 := ⟨_, rfl⟩
    obtain ⟨a2, ha2⟩ : ∃ a2, (Da.gsf old p ps).2 = a2 := ⟨_, rfl⟩
    obtain ⟨e1, he1⟩ : ∃ e1, bi ps k = e1 := ⟨_, rfl⟩
    rw [he1] at hst hel hrng
    rw [ha1] at hl1
    rw [ha2] at hl2
    obtain ⟨XA, hXA⟩ : ∃ XA, (bytesV a1).toArray = XA := ⟨_, rfl⟩
    obtain ⟨YA, hYA⟩ : ∃ YA, (bytesV a2).toArray = YA := ⟨_, rfl⟩
    obtain ⟨E, hE⟩ : ∃ E, (bytesV e1).toArray = E := ⟨_, rfl⟩
    have hEs : E.size = 32 := by rw [← hE]; simp [hel]
    have hXs : XA.size = 32 := by rw [← hXA]; simp [hl1]
    have hYs : YA.size = 32 := by rw [← hYA]; simp [hl2]
    have HES : Hid ((Tryd.prog.info? 41).map (·.size) = some E.size) := Lib.hid (by rw [dg_info, hEs])
    have HEO : Hid (E.all (·.oneCell') = true) := Lib.hid (by rw [← hE]; exact all_oneCell_toArray (bytesV_one _))
    have HEZ : Hid (Z.size = E.size) := Lib.hid (by rw [HZ.out, hEs]; simp)
    have HXS : Hid ((Tryd.prog.info? 41).map (·.size) = some XA.size) := Lib.hid (by rw [dg_info, hXs])
    have HYS : Hid ((Tryd.prog.info? 41).map (·.size) = some YA.size) := Lib.hid (by rw [dg_info, hYs])
    have HXE : Hid (XA.size = E.size ∧ YA.size = E.size) := Lib.hid ⟨by rw [hXs, hEs], by rw [hYs, hEs]⟩
    have HSIZ := Lib.hid (And.intro hXs (And.intro hYs hEs))
    obtain ⟨tf, tt, sd⟩ := x
    have hsd : sd ≤ 2 := hxin.2.2.2
    obtain ⟨D, hD⟩ : ∃ D, ptD (tf, tt, sd) = D := ⟨_, rfl⟩
    have hDs : D.size = 3 := by rw [← hD]; rfl
    have HDS3 : Hid ((Tryd.prog.info? 83).map (·.size) = some D.size) := Lib.hid (by rw [hDs]; kernel_rfl)
    have HDO : Hid (D.all (·.oneCell') = true) := Lib.hid (by rw [← hD]; simp [ptD, Value.oneCell'])
    have HDZ : Hid ((#[.int .i64 0, .int .i64 0, .int .i64 0] : Array Value).size = D.size) := Lib.hid (by rw [hDs]; rfl)
    have HK := Lib.hid (And.intro hk (And.intro hplen hr1))
    have HD := Lib.hid hD
    have HAA := Lib.hid (And.intro ha1 (And.intro ha2 (And.intro he1 (And.intro hXA (And.intro hYA hE)))))
    have HLL := Lib.hid (And.intro hl1 (And.intro hl2 hel))
    have HST := Lib.hid hst
    have HDG := Lib.hid hdg
    have HRG := Lib.hid (And.intro hb1lt hrng)
    have HSZ := Lib.hid hsz
    have HII := Lib.hid hI
    have hl0 : (0 : Int) < (r1 : Int) + 1 := by omega
    have hl8 : ¬ ((r1 : Int) + 1 ≤ 0) := by omega
    have hcc : r1 + 1 ≤ c1 := by have := hdg.le; rw [List.length_drop] at this; omega
    have hcm : c1 ≤ 9223372036854775807 := by have := hdg.cap; unfold maxLen at this; omega
    have hr20 : r1 ≤ 20 := by omega
    rw [show ptV (tf, tt, sd) = .agg D by unfold ptV; rw [hD]]
    clear hxin hplen hp hk hr1 hpsl hdg hb1lt hrng hel hbi hst hl1 hl2 ha1 ha2 he1 hXA hYA hE hEs hXs hYs hD hDs hsz hI
    gi_upto_region 3 with fail
    refine Rf.plain_round (by kernel_rfl) (by rintro ⟨a, w, h⟩; exact h) ?_
    (refine wpList_plain rfl (fun K hK => ?_); go_simp; refine hK _ _ ?_; clear hK K)
    refine wpList_store_row rfl 83 (.tmp 13) (.tmp 21) rfl Z'.heap.size D rfl rfl 83 #[.int .i64 0, .int .i64 0, .int .i64 0] (World.alloc_heap_new Z' _) HDS3.out HDZ.out HDO.out ?_
    refine wpList_nil ?_
    refine ⟨(new12 _ _).trans (below_row (Nat.le_refl _)), fun Y hY hnew hsy => ?_⟩
    rw [HSZ.out]
    obtain ⟨pt, hpt⟩ : ∃ pt, X.heap.size = pt := ⟨_, rfl⟩
    have hY8 : Y.heap[pt]? = some (.cells D 83 (0, 0)) := by
      rw [← hpt, hnew _ (Nat.le_refl _), ← HSZ.out]
      exact setRow_heap _ _ _ _ _ _ (World.alloc_heap_new Z' _)
    rw [hpt]
    have hIY := HII.out.later hY
    have hz : Boxed Y pz 32 (.slice (some ⟨b1, off1, none⟩) (r1 + 1) c1) := by have := hIY.z; rwa [HK.out.1, HK.out.2.2] at this
    have hcz := hz.cell
    have hrY := rangeAt_later HRG.out.2 hIY.below HRG.out.1
    obtain ⟨pe, hpe⟩ : ∃ pe, Y.heap.size = pe := ⟨_, rfl⟩
    obtain ⟨Y1, hY1⟩ : ∃ Y1, Y.alloc (.cells Z 41) = Y1 := ⟨_, rfl⟩
    obtain ⟨Y2, hY2⟩ : ∃ Y2, Y1.setRow pe E = Y2 := ⟨_, rfl⟩
    have hzz : Y1.heap[pe]? = some (.cells Z 41 (0, 0)) := by rw [← hY1, ← hpe]; exact World.alloc_heap_new Y _
    have hE2 : Y2.heap[pe]? = some (.cells E 41 (0, 0)) := by rw [← hY2]; exact setRow_heap _ _ _ _ _ _ hzz
    have hbY2 : Below Y.heap.size Y Y2 := by rw [← hY2, ← hY1]; exact (new12 _ _).trans (below_row (Nat.le_of_eq hpe))
    have hptY : pt < Y.heap.size := (Array.getElem?_eq_some_iff.1 hY8).1
    have hP2 : Y2.heap[pt]? = some (.cells D 83 (0, 0)) := by rw [hbY2.block pt hptY]; exact hY8
    have HIY2 := Lib.hid (hIY.later hbY2)
    have hz2 := boxed_later hz hbY2
    have hcz2 := hz2.cell
    have hfz2 := hz2.frozen
    have HRY := Lib.hid hrY
    have HZZ := Lib.hid hzz
    have HY1 := Lib.hid hY1
    have HY2 := Lib.hid hY2
    have HPE := Lib.hid hpe
    have HE2 := Lib.hid hE2
    have HP2 := Lib.hid hP2
    have HZ2 := Lib.hid hz2
    have HXB := Lib.hid (Kit.step hY hbY2)
    have HPT := Lib.hid (show px < pe ∧ py < pe ∧ pz < pe ∧ pt < pe ∧ px < pt ∧ py < pt ∧ pz < pt from ⟨by rw [← hpe]; exact hIY.x.lt, by rw [← hpe]; exact hIY.y.lt, by rw [← hpe]; exact hz.lt, by rw [← hpe]; exact hptY, by rw [← hpt]; exact HII.out.x.lt, by rw [← hpt]; exact HII.out.y.lt, by rw [← hpt]; exact HII.out.z.lt⟩)
    clear hnew hsy hY8 hpt hIY hz hrY hpe hY1 hY2 hzz hE2 hbY2 hptY hP2 hz2 hY
    gi_upto_region 4 with fail
    refine Rf.plain_round (by kernel_rfl) (by rintro ⟨a, w, h⟩; exact h) ?_
    (refine wpList_plain rfl (fun K hK => ?_); go_simp; refine hK _ _ ?_; clear hK K)
    (refine wpList_plain rfl (fun K hK => ?_); go_simp; refine hK _ _ ?_; clear hK K)
    refine wpList_load_mid rfl 41 (.tmp 23) rfl b1 off1 rfl (bytesV e1) _ HRY.out dg_under rfl (by rw [dg_info]; simp [HLL.out.2.2]) ?_
    rw [HAA.out.2.2.2.2.2]
    (refine wpList_plain rfl (fun K hK => ?_); go_simp; refine hK _ _ ?_; clear hK K)
    rw [HY1.out, HPE.out]
    refine wpList_store_row rfl 41 (.tmp 14) (.tmp 24) rfl pe E rfl rfl 41 Z HZZ.out HES.out HEZ.out HEO.out ?_
    refine wpList_nil ?_
    rw [HY2.out]
    clear hcz
    gi_upto_region 5 with fail
    refine wpIn_mono (Q := fun e b' v => e = .normal ∧ ∃ A2 c2, DgIs w A2 (ps.drop (k + 1)) c2 ∧ v = Y2.setCell ⟨pz, 0, none⟩ (.slice A2 r1 c2) ∧ b' = { tmps := #[.int .i64 (m : Int), .int .i64 (n : Int), .agg OA, .slice o P c, undef, undef, .pointer (some ⟨g, 0, none⟩), undef, .pointer (some ⟨g + 1, 0, none⟩), .pointer (some ⟨g + 1 + 1, 0, none⟩), .pointer (some ⟨px, 0, none⟩), .pointer (some ⟨py, 0, none⟩), .pointer (some ⟨pz, 0, none⟩), .pointer (some ⟨pt, 0, none⟩), .pointer (some ⟨pe, 0, none⟩), .agg OA, .agg OA, .slice o P c, .int .i64 (m : Int), .int .i64 (n : Int), .func (.func 58) #[] #[.pointer (some ⟨q + 1, 0, none⟩), .pointer (some ⟨q, 0, none⟩)], .agg D, .slice (some ⟨b1, off1, none⟩) (r1 + 1) c1, .pointer (some ⟨b1, off1, none⟩), .agg E, .slice (some ⟨b1, off1, none⟩) (r1 + 1) c1, .slice A2 r1 c2, undef, undef, undef, undef, undef, undef, undef, undef, undef, undef, undef, undef, undef, undef, undef, undef, undef, undef, undef, undef, undef], defers := [] }) ?reg5 ?rest5
    case reg5 =>
      by_cases hc1 : c1 = 1
      · have hr0 : r1 = 0 := by omega
        subst hr0
        subst hc1
        refine Rf.plain_round (by kernel_rfl) (by rintro ⟨a, w, h⟩; cases h.1) ?_
        (refine wpList_plain rfl (fun K hK => ?_); go_simp; refine hK _ _ ?_; clear hK K)
        (refine wpList_plain rfl (fun K hK => ?_); go_simp; refine hK _ _ ?_; clear hK K)
        (refine wpList_plain rfl (fun K hK => ?_); go_simp; refine hK _ _ ?_; clear hK K)
        refine wpList_nil ?_
        exact ⟨rfl, _, _, by
          have h9 : (ps.drop (k + 1)).length = 0 := by rw [List.length_drop, HP.out.1]; have := HK.out.2.2; omega
          rw [List.eq_nil_of_length_eq_zero h9]
          exact DgIs.empty _ 0 (Nat.zero_le _) (fun e => by cases e), rfl, rfl⟩
      · have hck : ¬ c1 < 1 := by omega
        have hle1 : (1 : Int) ≤ (r1 : Int) + 1 := by omega
        refine Rf.plain_round (by kernel_rfl) (by rintro ⟨a, w, h⟩; cases h.1) ?_
        (refine wpList_plain rfl (fun K hK => ?_); go_simp; refine hK _ _ ?_; clear hK K)
        (refine wpList_plain rfl (fun K hK => ?_); go_simp; refine hK _ _ ?_; clear hK K)
        (refine wpList_plain rfl (fun K hK => ?_); go_simp; refine hK _ _ ?_; clear hK K)
        refine wpList_nil ?_
        exact ⟨rfl, _, _, by
          have h9 := HDG.out.part 1 r1 (by rw [List.length_drop, HP.out.1]; have := HK.out.2.2; omega) (c1 - 1) (by omega) (by unfold maxLen; omega)
          rw [List.drop_drop, List.take_of_length_le (by rw [List.length_drop, HP.out.1]; have := HK.out.2.2; omega)] at h9
          exact h9, rfl, rfl⟩
    intro e b' V hq
    obtain ⟨rfl, A2, c2, hA2, hV, rfl⟩ := hq
    dsimp only
    -- STOP4
    have hBV : MaB14 w m n g px py pz q a1 a2 (.slice A2 r1 c2) V := by
      rw [hV]
      have h9 := HIY2.out.base
      rw [HAA.out.1, HAA.out.2.1] at h9
      exact h9.setz HNE.out _
    have hbl : ∀ b, b ≠ pz → V.heap[b]? = Y2.heap[b]? := fun b hb => by rw [hV]; exact Below.heap_setCell _ _ _ b (fun e => hb e)
    have hEV : V.heap[pe]? = some (.cells E 41 (0, 0)) := by rw [hbl pe (by have := HPT.out; omega)]; exact HE2.out
    have hPV : V.heap[pt]? = some (.cells D 83 (0, 0)) := by rw [hbl pt (by have := HPT.out; omega)]; exact HP2.out
    have hKV : KeepsOthers X V := by rw [hV]; exact (keeps_below HXB.out).trans (KeepsOthers.setCell _ _ _)
    have hcd : V.cell? ⟨pt, 2, none⟩ = some (.int .i64 (sd : Int)) := by unfold World.cell?; rw [hPV, ← HD.out]; rfl
    have HBV := Lib.hid hBV
    have HEV := Lib.hid hEV
    have HKV := Lib.hid hKV
    have HA2 := Lib.hid hA2
    have HXV : Hid (V.heap[px]? = some (.cells XA 41 (0, 0))) := Lib.hid (by rw [← HAA.out.2.2.2.1]; exact hBV.x)
    have HYV : Hid (V.heap[py]? = some (.cells YA 41 (0, 0))) := Lib.hid (by rw [← HAA.out.2.2.2.2.1]; exact hBV.y)
    have hNO := fun (x y : List UInt8) (hx : x.length = 32) (hy : y.length = 32) (v : World) (hb : Below V.heap.size V v) => tnode_any x y hx hy v (HV.out.later (Kit.step hBV.below hb))
    have HNO := Lib.hid hNO
    have HPP := Lib.hid (show pe ≠ px ∧ pe ≠ py from by have := HPT.out; omega)
    clear hcz2 hfz2 hBV hbl hEV hPV hKV hA2 hV hNO hl0 hl8 hcc hcm
    obtain rfl | rfl | rfl : sd = 0 ∨ sd = 1 ∨ sd = 2 := by omega
    · rw [show (((0 : Nat) : Int)) = 0 from rfl] at hcd
      obtain ⟨C, hC⟩ : ∃ C : World → Prop, (fun v : World => v.heap[pe]? = some (.cells E 41 (0, 0))) = C := ⟨_, rfl⟩
      have HC1 : Hid (∀ v : World, v.heap[pe]? = some (.cells E 41 (0, 0)) → C v) := Lib.hid fun v hv => by rw [← hC]; exact hv
      have HC2 : Hid (∀ v, C v → v.heap[pe]? = some (.cells E 41 (0, 0))) := Lib.hid fun v hv => by rw [← hC] at hv; exact hv
      have hC0 : C V.drew := HC1.out _ HEV.out
      clear hC
      gi_upto_region 8 with fail
      -- STOP5
      refine Rgt.round C (fun _ => false) (by kernel_rfl) (by kernel_rfl) (by rintro ⟨a, w, h⟩; exact h) ?_
      refine Rgt.take (i := 0) (x := .agg E) rfl rfl (by kernel_rfl) (by kernel_rfl) (by kernel_rfl) (by kernel_rfl) (fun _ _ _ h => h) (Or.inl ⟨by kernel_rfl, fun w hw => exec_row (t := 41) (fr := (0, 0)) rfl rfl (HC2.out w hw) dg_under rfl HES.out⟩) hC0 ?_
      go_simp
      refine Rgt.take (i := 1) (x := .agg E) rfl rfl (by kernel_rfl) (by kernel_rfl) (by kernel_rfl) (by kernel_rfl) (fun _ _ _ h => h) (Or.inl ⟨by kernel_rfl, fun w hw => exec_row (t := 41) (fr := (0, 0)) rfl rfl (HC2.out w hw) dg_under rfl HES.out⟩) hC0 ?_
      go_simp
      obtain ⟨V0, hV0⟩ : ∃ V0, V.drew = V0 := ⟨_, rfl⟩
      have hb0 : Below V.heap.size V V0 := by rw [← hV0]; exact Kit.dn' V 1
      have hx0 : V0.heap[px]? = some (.cells XA 41 (0, 0)) := by rw [← hV0]; exact HXV.out
      have hy1 : (V0.setRow px E).heap[py]? = some (.cells YA 41 (0, 0)) := by rw [setRow_other V0 px py E (Ne.symm HNE.out.1), ← hV0]; exact HYV.out
      have hC1 : C (V0.setRow px E) := HC1.out _ (by rw [setRow_other V0 px pe E HPP.out.1, ← hV0]; exact HEV.out)
      have hC2 : C ((V0.setRow px E).setRow py E) := HC1.out _ (by rw [setRow_other _ py pe E HPP.out.2]; exact HC2.out _ hC1)
      have HFIN : Hid (KeepsOthers X ((V0.setRow px E).setRow py E) ∧ ∃ o' c', MaI14 w old ps P m n g px py pz q (p ++ [(tf, tt, 0)]) o' c' ((V0.setRow px E).setRow py E)) := Lib.hid (by
        refine ⟨HKV.out.trans ((keeps_below hb0).trans ((keeps_row hx0).trans (keeps_row hy1))), A2, c2, ?_⟩
        refine (((HBV.out.later hb0).setx HNE.out e1 E HAA.out.2.2.2.2.2).sety HNE.out e1 E HAA.out.2.2.2.2.2).done ?_ ?_ ?_
        · rw [HST.out]; rfl
        · rw [List.length_append, List.length_singleton, HK.out.1]; have := HK.out.2.2; omega
        · rw [List.length_append, List.length_singleton, HK.out.1]; exact HA2.out)
      have HX0 := Lib.hid hx0
      have HY1 := Lib.hid hy1
      rw [hV0]
      clear hV0 hb0 hx0 hy1 hC0
      refine Rgt.ready (i := 2) (by kernel_rfl) rfl (by kernel_rfl) (fun K hK => ?_)
      refine wp_store_row 41 (.tmp 10) (.tmp 31) rfl px E rfl rfl 41 XA HX0.out HES.out HXE.out.1 HEO.out (hK _ _ hC1 ?_)
      clear hK K
      refine Rgt.ready (i := 3) (by kernel_rfl) rfl (by kernel_rfl) (fun K hK => ?_)
      refine wp_store_row 41 (.tmp 11) (.tmp 32) rfl py E rfl rfl 41 YA HY1.out HES.out HXE.out.2 HEO.out (hK _ _ hC2 ?_)
      clear hK K
      refine Rgt.done (by kernel_rfl) ?_ _
      gi_wp2
      exact HN'.out _ _ HFIN.out.1 HFIN.out.2
    · rw [show (((1 : Nat) : Int)) = 1 from rfl] at hcd
      obtain ⟨G1, hG1⟩ : ∃ G1, (bytesV (Da.nd e1 a1)).toArray = G1 := ⟨_, rfl⟩
      obtain ⟨G2, hG2⟩ : ∃ G2, (bytesV (Da.nd e1 a2)).toArray = G2 := ⟨_, rfl⟩
      have hg1 : G1.size = 32 := by rw [← hG1]; simp [Da.nd_length]
      have hg2 : G2.size = 32 := by rw [← hG2]; simp [Da.nd_length]
      have HG1S : Hid ((Tryd.prog.info? 41).map (·.size) = some G1.size) := Lib.hid (by rw [dg_info, hg1])
      have HG2S : Hid ((Tryd.prog.info? 41).map (·.size) = some G2.size) := Lib.hid (by rw [dg_info, hg2])
      have HG1O : Hid (G1.all (·.oneCell') = true) := Lib.hid (by rw [← hG1]; exact all_oneCell_toArray (bytesV_one _))
      have HG2O : Hid (G2.all (·.oneCell') = true) := Lib.hid (by rw [← hG2]; exact all_oneCell_toArray (bytesV_one _))
      have HG1Z : Hid (XA.size = G1.size ∧ YA.size = G2.size) := Lib.hid ⟨by rw [HSIZ.out.1, hg1], by rw [HSIZ.out.2.1, hg2]⟩
      have N1 := fun v hb => HNO.out e1 a1 HLL.out.2.2 HLL.out.1 v hb
      have N2 := fun v hb => HNO.out e1 a2 HLL.out.2.2 HLL.out.2.1 v hb
      rw [HAA.out.2.2.2.2.2, HAA.out.2.2.2.1, hG1] at N1
      rw [HAA.out.2.2.2.2.2, HAA.out.2.2.2.2.1, hG2] at N2
      have HN1 := Lib.hid N1
      have HN2 := Lib.hid N2
      have HGG := Lib.hid (And.intro hG1 hG2)
      clear N1 N2 hG1 hG2 hg1 hg2
      obtain ⟨C, hC⟩ : ∃ C : World → Prop, (fun v : World => v.heap[pe]? = some (.cells E 41 (0, 0)) ∧ v.heap[py]? = some (.cells YA 41 (0, 0))) = C := ⟨_, rfl⟩
      have HC1 : Hid (∀ v : World, v.heap[pe]? = some (.cells E 41 (0, 0)) ∧ v.heap[py]? = some (.cells YA 41 (0, 0)) → C v) := Lib.hid fun v hv => by rw [← hC]; exact hv
      have HC2 : Hid (∀ v, C v → v.heap[pe]? = some (.cells E 41 (0, 0)) ∧ v.heap[py]? = some (.cells YA 41 (0, 0))) := Lib.hid fun v hv => by rw [← hC] at hv; exact hv
      have HCB : Hid (∀ v, Below V.heap.size V v → C v) := Lib.hid fun v hb => HC1.out v ⟨by rw [hb.block pe (Array.getElem?_eq_some_iff.1 HEV.out).1]; exact HEV.out, by rw [hb.block py (Array.getElem?_eq_some_iff.1 HYV.out).1]; exact HYV.out⟩
      have hC0 : C V.drew := HCB.out _ (Kit.dn' V 1)
      have HB0 : Hid (Below V.heap.size V V.drew) := Lib.hid (Kit.dn' V 1)
      clear hC
      gi_upto_region 10 with fail
      -- STOP6
      refine Rgt.round C (fun t => t == 7) (by kernel_rfl) (by kernel_rfl) (by rintro ⟨a, w, h⟩; exact h) ?_
      refine Rgt.take (i := 0) (x := .agg E) rfl rfl (by kernel_rfl) (by kernel_rfl) (by kernel_rfl) (by kernel_rfl) (fun _ _ _ h => h) (Or.inl ⟨by kernel_rfl, fun w hw => exec_row (t := 41) (fr := (0, 0)) rfl rfl (HC2.out w hw).1 dg_under rfl HES.out⟩) hC0 ?_
      go_simp
      refine Rgt.take (i := 3) (x := .agg E) rfl rfl (by kernel_rfl) (by kernel_rfl) (by kernel_rfl) (by kernel_rfl) (fun _ _ _ h => h) (Or.inl ⟨by kernel_rfl, fun w hw => exec_row (t := 41) (fr := (0, 0)) rfl rfl (HC2.out w hw).1 dg_under rfl HES.out⟩) hC0 ?_
      go_simp
      refine Rgt.take (i := 4) (x := .agg YA) rfl rfl (by kernel_rfl) (by kernel_rfl) (by kernel_rfl) (by kernel_rfl) (fun _ _ _ h => h) (Or.inl ⟨by kernel_rfl, fun w hw => exec_row (t := 41) (fr := (0, 0)) rfl rfl (HC2.out w hw).2 dg_under rfl HYS.out⟩) hC0 ?_
      go_simp
      obtain ⟨V0, hV0⟩ : ∃ V0, V.drew = V0 := ⟨_, rfl⟩
      rw [hV0] at HB0 hC0 ⊢
      have hx0 : V0.heap[px]? = some (.cells XA 41 (0, 0)) := by rw [← hV0]; exact HXV.out
      have HX0 := Lib.hid hx0
      clear hV0 hx0
      refine Rgt.ready (i := 1) (by kernel_rfl) rfl (by kernel_rfl) (fun K hK => wp_load_row 41 (.tmp 10) rfl px rfl 41 XA (0, 0) _ HX0.out dg_under rfl HXS.out (hK _ _ hC0 ?_))
      clear hK K
      go_simp
      refine Rgt.ready (i := 2) (by kernel_rfl) rfl (by kernel_rfl) (fun K hK => ?_)
      go_simp
      refine (HN1.out _ HB0.out).mono ?_
      rintro e V1 ⟨rfl, hb1⟩
      have hb01 := Kit.step HB0.out hb1
      have hC1 := HCB.out _ hb01
      refine hK _ _ hC1 ?_
      clear hK K
      refine Rgt.ready (i := 5) (by kernel_rfl) rfl (by kernel_rfl) (fun K hK => ?_)
      go_simp
      refine (HN2.out _ hb01).mono ?_
      rintro e V2 ⟨rfl, hb2⟩
      have hb02 := Kit.step hb01 hb2
      have hC2 := HCB.out _ hb02
      refine hK _ _ hC2 ?_
      clear hK K
      have hx2 : V2.heap[px]? = some (.cells XA 41 (0, 0)) := by rw [hb02.block px (Array.getElem?_eq_some_iff.1 HXV.out).1]; exact HXV.out
      have hy3 : (V2.setRow px G1).heap[py]? = some (.cells YA 41 (0, 0)) := by rw [setRow_other V2 px py G1 (Ne.symm HNE.out.1)]; exact (HC2.out _ hC2).2
      have hC3 : C (V2.setRow px G1) := HC1.out _ ⟨by rw [setRow_other V2 px pe G1 HPP.out.1]; exact (HC2.out _ hC2).1, hy3⟩
      have HFIN : Hid (KeepsOthers X ((V2.setRow px G1).setRow py G2) ∧ ∃ o' c', MaI14 w old ps P m n g px py pz q (p ++ [(tf, tt, 1)]) o' c' ((V2.setRow px G1).setRow py G2)) := Lib.hid (by
        refine ⟨HKV.out.trans ((keeps_below hb02).trans ((keeps_row hx2).trans (keeps_row hy3))), A2, c2, ?_⟩
        refine (((HBV.out.later hb02).setx HNE.out _ G1 HGG.out.1).sety HNE.out _ G2 HGG.out.2).done ?_ ?_ ?_
        · rw [HST.out, ← HAA.out.1, ← HAA.out.2.1]; rfl
        · rw [List.length_append, List.length_singleton, HK.out.1]; have := HK.out.2.2; omega
        · rw [List.length_append, List.length_singleton, HK.out.1]; exact HA2.out)
      have HX2 := Lib.hid hx2
      have HY3 := Lib.hid hy3
      clear hb1 hb01 hb2 hb02 hx2 hy3 hC0 hC1
      refine Rgt.ready (i := 6) (by kernel_rfl) rfl (by kernel_rfl) (fun K hK => ?_)
      refine wp_store_row 41 (.tmp 10) (.tmp 37) rfl px G1 rfl rfl 41 XA HX2.out HG1S.out HG1Z.out.1 HG1O.out (hK _ _ hC3 ?_)
      clear hK K
      refine Rgt.readyT (i := 7) (by kernel_rfl) rfl rfl (by kernel_rfl) (fun K hK => ?_)
      refine wp_store_row 41 (.tmp 11) (.tmp 40) rfl py G2 rfl rfl 41 YA HY3.out HG2S.out HG1Z.out.2 HG2O.out (hK _ _ ?_)
      clear hK K
      refine Rgt.done (by kernel_rfl) ?_ _
      gi_wp2
      exact HN'.out _ _ HFIN.out.1 HFIN.out.2
    · rw [show (((2 : Nat) : Int)) = 2 from rfl] at hcd
      obtain ⟨G2, hG2⟩ : ∃ G2, (bytesV (Da.nd a2 e1)).toArray = G2 := ⟨_, rfl⟩
      have hg2 : G2.size = 32 := by rw [← hG2]; simp [Da.nd_length]
      have HG2S : Hid ((Tryd.prog.info? 41).map (·.size) = some G2.size) := Lib.hid (by rw [dg_info, hg2])
      have HG2O : Hid (G2.all (·.oneCell') = true) := Lib.hid (by rw [← hG2]; exact all_oneCell_toArray (bytesV_one _))
      have HG2Z : Hid (YA.size = G2.size) := Lib.hid (by rw [HSIZ.out.2.1, hg2])
      have N2 := HNO.out a2 e1 HLL.out.2.1 HLL.out.2.2 V (Below.refl _ _)
      rw [HAA.out.2.2.2.2.2, HAA.out.2.2.2.2.1, hG2] at N2
      have HN2 := Lib.hid N2
      have HGG := Lib.hid hG2
      clear N2 hG2 hg2
      gi_upto_region 12 with fail
      -- STOP7
      refine Rf.plain_round (by kernel_rfl) (by rintro ⟨a, w, h⟩; exact h) ?_
      refine wpList_load_row rfl 41 (.tmp 11) rfl py rfl 41 YA (0, 0) _ HYV.out dg_under rfl HYS.out ?_
      refine wpList_load_row rfl 41 (.tmp 14) rfl pe rfl 41 E (0, 0) _ HEV.out dg_under rfl HES.out ?_
      (refine wpList_plain rfl (fun K hK => ?_); go_simp)
      refine HN2.out.mono ?_
      rintro e V2 ⟨rfl, hb2⟩
      refine hK _ _ ?_
      clear hK K
      have hy2 : V2.heap[py]? = some (.cells YA 41 (0, 0)) := by rw [hb2.block py (Array.getElem?_eq_some_iff.1 HYV.out).1]; exact HYV.out
      have HFIN : Hid (KeepsOthers X (V2.setRow py G2) ∧ ∃ o' c', MaI14 w old ps P m n g px py pz q (p ++ [(tf, tt, 2)]) o' c' (V2.setRow py G2)) := Lib.hid (by
        refine ⟨HKV.out.trans ((keeps_below hb2).trans (keeps_row hy2)), A2, c2, ?_⟩
        refine ((HBV.out.later hb2).sety HNE.out _ G2 HGG.out).done ?_ ?_ ?_
        · rw [HST.out, ← HAA.out.1, ← HAA.out.2.1]; rfl
        · rw [List.length_append, List.length_singleton, HK.out.1]; have := HK.out.2.2; omega
        · rw [List.length_append, List.length_singleton, HK.out.1]; exact HA2.out)
      have HY2 := Lib.hid hy2
      clear hb2 hy2
      refine wpList_store_row rfl 41 (.tmp 11) (.tmp 45) rfl py G2 rfl rfl 41 YA HY2.out HG2S.out HG2Z.out HG2O.out ?_
      refine wpList_nil ?_
      gi_wp2
      exact HN'.out _ _ HFIN.out.1 HFIN.out.2
  case done =>
    rintro D' p X hD' hp ⟨o', c', hI⟩ hK'
    have hal := Da.gsf_all32 HO.out.1 ps HR.out.all p
    have hx := hI.x
    have hy := hI.y
    rw [hp, HMG.out] at hal hx hy
    obtain ⟨R1, hR1⟩ : ∃ R1, (bytesV (Da.mde m n old true ps).1).toArray = R1 := ⟨_, rfl⟩
    obtain ⟨R2, hR2⟩ : ∃ R2, (bytesV (Da.mde m n old true ps).2).toArray = R2 := ⟨_, rfl⟩
    have hs1 : R1.size = 32 := by rw [← hR1]; simp [hal.1]
    have hs2 : R2.size = 32 := by rw [← hR2]; simp [hal.2]
    have HR1S : Hid ((Tryd.prog.info? 41).map (·.size) = some R1.size) := Lib.hid (by rw [dg_info, hs1])
    have HR2S : Hid ((Tryd.prog.info? 41).map (·.size) = some R2.size) := Lib.hid (by rw [dg_info, hs2])
    have HR1O : Hid (R1.all (·.oneCell') = true) := Lib.hid (by rw [← hR1]; exact all_oneCell_toArray (bytesV_one _))
    have HR2O : Hid (R2.all (·.oneCell') = true) := Lib.hid (by rw [← hR2]; exact all_oneCell_toArray (bytesV_one _))
    have HRZ : Hid ((bytesV (List.replicate 32 0)).toArray.size = R1.size ∧ (bytesV (List.replicate 32 0)).toArray.size = R2.size) := Lib.hid ⟨by rw [hs1]; simp, by rw [hs2]; simp⟩
    have hx2 : X.heap[px]? = some (.cells R1 41 (0, 0)) := by rw [← hR1]; exact hx
    have hy2 : X.heap[py]? = some (.cells R2 41 (0, 0)) := by rw [← hR2]; exact hy
    obtain ⟨n1, n2, n3, n4, n5, n6, n7, n8, n9, n10⟩ := HNE.out
    have hf1 : X.drew.heap[g + 1]? = some (.cells (bytesV (List.replicate 32 0)).toArray 41 (0, 0)) := hI.f1
    have hf2 : (X.drew.setRow (g + 1) R1).heap[g + 1 + 1]? = some (.cells (bytesV (List.replicate 32 0)).toArray 41 (0, 0)) := by rw [setRow_other _ (g + 1) (g + 1 + 1) R1 (by omega)]; exact hI.f2
    have hd1 : D' ≠ g + 1 := fun e => by subst e; rw [show X.heap[g + 1]? = _ from hI.f1] at hK'; cases hK'
    have hd2 : D' ≠ g + 1 + 1 := fun e => by subst e; rw [show X.heap[g + 1 + 1]? = _ from hI.f2] at hK'; cases hK'
    have hKV : ((X.drew.setRow (g + 1) R1).setRow (g + 1 + 1) R2).heap[D']? = some (.deferred (some [])) := by rw [setRow_other _ _ D' R2 hd2, setRow_other _ _ D' R1 hd1]; exact hK'
    have HFIN : Hid (((X.drew.setRow (g + 1) R1).setRow (g + 1 + 1) R2).heap[D']? = some (.deferred (some [])) ∧ (((X.drew.setRow (g + 1) R1).setRow (g + 1 + 1) R2).putObj D' (.deferred none)).heap[g + 1]? = some (.cells R1 41 (0, 0)) ∧
        (((X.drew.setRow (g + 1) R1).setRow (g + 1 + 1) R2).putObj D' (.deferred none)).heap[g + 1 + 1]? = some (.cells R2 41 (0, 0)) ∧ Below w.heap.size w (((X.drew.setRow (g + 1) R1).setRow (g + 1 + 1) R2).putObj D' (.deferred none))) := Lib.hid (by
      refine ⟨hKV, ?_, ?_, ?_⟩
      · rw [World.putObj_heap_other (Ne.symm hd1), setRow_other _ (g + 1 + 1) (g + 1) R2 (by omega)]
        exact setRow_heap _ _ _ _ _ _ hf1
      · rw [World.putObj_heap_other (Ne.symm hd2)]
        exact setRow_heap _ _ _ _ _ _ hf2
      · exact (((Kit.step hI.below (Kit.dn' X 1)).trans (below_row (by omega))).trans (below_row (by omega))).trans (belowK_b (w := w) (Nat.le_refl _) _ D' _ _ (by have := HI0.out.below.size; omega) hKV rfl rfl))
    have HF1 := Lib.hid hf1
    have HF2 := Lib.hid hf2
    obtain ⟨C, hC⟩ : ∃ C : World → Prop, (fun v : World => v.heap[px]? = some (.cells R1 41 (0, 0)) ∧ v.heap[py]? = some (.cells R2 41 (0, 0))) = C := ⟨_, rfl⟩
    have HC1 : Hid (∀ v : World, v.heap[px]? = some (.cells R1 41 (0, 0)) ∧ v.heap[py]? = some (.cells R2 41 (0, 0)) → C v) := Lib.hid fun v hv => by rw [← hC]; exact hv
    have HC2 : Hid (∀ v, C v → v.heap[px]? = some (.cells R1 41 (0, 0)) ∧ v.heap[py]? = some (.cells R2 41 (0, 0))) := Lib.hid fun v hv => by rw [← hC] at hv; exact hv
    have hC0 : C X.drew := HC1.out _ ⟨hx2, hy2⟩
    have hC1 : C (X.drew.setRow (g + 1) R1) := HC1.out _ ⟨by rw [setRow_other _ (g + 1) px R1 (by omega)]; exact hx2, by rw [setRow_other _ (g + 1) py R1 (by omega)]; exact hy2⟩
    have hC2 : C ((X.drew.setRow (g + 1) R1).setRow (g + 1 + 1) R2) := HC1.out _ ⟨by rw [setRow_other _ (g + 1 + 1) px R2 (by omega)]; exact (HC2.out _ hC1).1, by rw [setRow_other _ (g + 1 + 1) py R2 (by omega)]; exact (HC2.out _ hC1).2⟩
    have HRR := Lib.hid (And.intro hR1 hR2)
    clear hal hx hy hR1 hR2 hs1 hs2 hx2 hy2 n1 n2 n3 n4 n5 n6 n7 n8 n9 n10 hf1 hf2 hd1 hd2 hKV hC hI hK' hp
    dsimp only
    go_upto_region 13 with fail
    -- STOP8
    obtain ⟨Q2, hQ2⟩ : ∃ Q2 : Exit → Act → World → Prop, (fun e b' v => e = .normal ∧ v.heap[D']? = some (.deferred (some [])) ∧ (v.putObj D' (.deferred none)).heap[g + 1]? = some (.cells R1 41 (0, 0)) ∧ (v.putObj D' (.deferred none)).heap[g + 1 + 1]? = some (.cells R2 41 (0, 0)) ∧ Below w.heap.size w (v.putObj D' (.deferred none)) ∧ b' = { tmps := #[.int .i64 (m : Int), .int .i64 (n : Int), .agg OA, .slice o P c, undef, undef, .pointer (some ⟨g, 0, none⟩), undef, .pointer (some ⟨g + 1, 0, none⟩), .pointer (some ⟨g + 1 + 1, 0, none⟩), .pointer (some ⟨px, 0, none⟩), .pointer (some ⟨py, 0, none⟩), .pointer (some ⟨pz, 0, none⟩), undef, undef, .agg OA, .agg OA, .slice o P c, .int .i64 (m : Int), .int .i64 (n : Int), .func (.func 58) #[] #[.pointer (some ⟨q + 1, 0, none⟩), .pointer (some ⟨q, 0, none⟩)], undef, undef, undef, undef, undef, undef, undef, undef, undef, undef, undef, undef, undef, undef, undef, undef, undef, undef, undef, undef, undef, undef, undef, undef, undef, .agg R1, .agg R2], defers := [{ target := .collected D', args := #[] }] }) = Q2 := ⟨_, rfl⟩
    refine Code.wp_mono (Q := Q2) ?rest2 ?reg2
    case reg2 =>
      have HQ2 : Hid (∀ b' v, (v.heap[D']? = some (.deferred (some [])) ∧ (v.putObj D' (.deferred none)).heap[g + 1]? = some (.cells R1 41 (0, 0)) ∧ (v.putObj D' (.deferred none)).heap[g + 1 + 1]? = some (.cells R2 41 (0, 0)) ∧ Below w.heap.size w (v.putObj D' (.deferred none)) ∧ b' = { tmps := #[.int .i64 (m : Int), .int .i64 (n : Int), .agg OA, .slice o P c, undef, undef, .pointer (some ⟨g, 0, none⟩), undef, .pointer (some ⟨g + 1, 0, none⟩), .pointer (some ⟨g + 1 + 1, 0, none⟩), .pointer (some ⟨px, 0, none⟩), .pointer (some ⟨py, 0, none⟩), .pointer (some ⟨pz, 0, none⟩), undef, undef, .agg OA, .agg OA, .slice o P c, .int .i64 (m : Int), .int .i64 (n : Int), .func (.func 58) #[] #[.pointer (some ⟨q + 1, 0, none⟩), .pointer (some ⟨q, 0, none⟩)], undef, undef, undef, undef, undef, undef, undef, undef, undef, undef, undef, undef, undef, undef, undef, undef, undef, undef, undef, undef, undef, undef, undef, undef, undef, .agg R1, .agg R2], defers := [{ target := .collected D', args := #[] }] }) → Q2 .normal b' v) := Lib.hid fun b' v h => by rw [← hQ2]; exact ⟨rfl, h⟩
      have HQP : Hid (∀ c b' v, ¬ Q2 (.panic c) b' v) := Lib.hid fun c b' v h => by rw [← hQ2] at h; cases h.1
      clear hQ2
      refine Rgt.region C (fun _ => false) (by kernel_rfl) ?_
      refine Rgt.take (i := 0) (x := .agg R1) rfl rfl (by kernel_rfl) (by kernel_rfl) (by kernel_rfl) (by kernel_rfl) (fun _ _ _ h => absurd h (HQP.out _ _ _)) (Or.inl ⟨by kernel_rfl, fun w hw => exec_row (t := 41) (fr := (0, 0)) rfl rfl (HC2.out w hw).1 dg_under rfl HR1S.out⟩) hC0 ?_
      go_simp
      refine Rgt.take (i := 1) (x := .agg R2) rfl rfl (by kernel_rfl) (by kernel_rfl) (by kernel_rfl) (by kernel_rfl) (fun _ _ _ h => absurd h (HQP.out _ _ _)) (Or.inl ⟨by kernel_rfl, fun w hw => exec_row (t := 41) (fr := (0, 0)) rfl rfl (HC2.out w hw).2 dg_under rfl HR2S.out⟩) hC0 ?_
      go_simp
      refine Rgt.ready (i := 2) (by kernel_rfl) rfl (by kernel_rfl) (fun K hK => ?_)
      refine wp_store_row 41 (.tmp 8) (.tmp 46) rfl (g + 1) R1 rfl rfl 41 _ HF1.out HR1S.out HRZ.out.1 HR1O.out (hK _ _ hC1 ?_)
      clear hK K
      refine Rgt.ready (i := 3) (by kernel_rfl) rfl (by kernel_rfl) (fun K hK => ?_)
      refine wp_store_row 41 (.tmp 9) (.tmp 47) rfl (g + 1 + 1) R2 rfl rfl 41 _ HF2.out HR2S.out HRZ.out.2 HR2O.out (hK _ _ hC2 ?_)
      clear hK K
      refine Rgt.done (by kernel_rfl) ?_ _
      obtain ⟨q1, q2, q3, q4⟩ := HFIN.out
      exact HQ2.out _ _ ⟨q1, q2, q3, q4, rfl⟩
    intro e b' V hq2
    rw [← hQ2] at hq2
    clear hQ2 Q2
    obtain ⟨rfl, v1, v2, v3, v4, rfl⟩ := hq2
    dsimp only
    have HV1 := Lib.hid v1
    have HV2 := Lib.hid (And.intro v2 (And.intro v3 v4))
    clear v1 v2 v3 v4
    go_wp2_with fail
    refine Rf.leaves HV1.out (results_rows2 rfl _ (g1 := g + 1) (g2 := g + 1 + 1) rfl rfl HV2.out.1 HV2.out.2.1 dg_under rfl HR1S.out dg_under rfl HR2S.out) ?_
    exact ⟨by rw [HRR.out.1, HRR.out.2], HV2.out.2.2⟩
  case stop => exact fun D c X hD h => h.elim
theorem gmade_any (m n : Nat) (hm1 : 1 ≤ m) (hmn : m ≤ n) (h5 : n ≤ 512) (old : List UInt8) (ho : old.length = 32) (ps : List (List UInt8)) (o : Option Addr) (P c : Nat) (hP : ps.length = P) (hcnt : P = Da.cnt m n true) (w : World) (hR : DgIs w o ps c) (hV : Cds w) :
    Calls Tryd.prog 45 #[.int .i64 (m : Int), .int .i64 (n : Int), .agg (bytesV old).toArray, .slice o P c] w fun e w' =>
      e = .returned (.tuple #[.agg (bytesV (Da.mde m n old true ps).1).toArray, .agg (bytesV (Da.mde m n old true ps).2).toArray]) ∧ Below w.heap.size w w' := gmade_of _ rfl dg_zero m n hm1 hmn h5 old ho ps o P c hP hcnt w hR hV
end Go.Proofs.YtfccpfmgkpcnoaaDoor
namespace Go.Proofs.YtfccpfmgkpcnoaaDoor
open Go.RowKit
set_option linter.unusedVariables false
set_option linter.unusedSimpArgs false
theorem gcheck_range (m n : Int) (hbad : ¬ (1 ≤ m ∧ m ≤ n ∧ n ≤ 512)) (OA NA : Array Value) (pv : Value) (A : Nat → Addr) (w : World) (hA : E13 w A) :
    Calls Tryd.prog 26 #[.int .i64 m, .agg OA, .int .i64 n, .agg NA, pv] w fun e w' => e = .returned (errP A 1) ∧ Below w.heap.size w w' := by
  obtain ⟨W1, hW1⟩ : ∃ W1, w.alloc (.cells OA 41) = W1 := ⟨_, rfl⟩
  obtain ⟨W2, hW2⟩ : ∃ W2, W1.alloc (.cells NA 41) = W2 := ⟨_, rfl⟩
  have hb1 : Below w.heap.size w W1 := by rw [← hW1]; exact new12 _ _
  have hb2 : Below W1.heap.size W1 W2 := by rw [← hW2]; exact new12 _ _
  have hb := Kit.step hb1 hb2
  have CN := gcnt_bad m n hbad W2
  have hc := (hA.later hb).c0
  have HCN := Lib.hid CN
  have HB := Lib.hid hb
  have HW1 := Lib.hid hW1
  have HW2 := Lib.hid hW2
  clear CN hb1 hb2 hb hW1 hW2 hbad hA
  go_enter Tryd.func26, Tryd.ntmps26
  go_upto_region 1 with fail
  rw [HW1.out, HW2.out]
  go_wp2_with fail
  refine HCN.out.mono ?_
  rintro e w1 ⟨rfl, rfl⟩
  rename World => W2
  go_wp2_with fail
  go_ret
  exact ⟨rfl, HB.out⟩
theorem gcheck_size (m n : Nat) (hm1 : 1 ≤ m) (hmn : m ≤ n) (h5 : n ≤ 512) (OA NA : Array Value) (o : Option Addr) (P c : Nat) (hP : P ≠ Da.cnt m n true) (hp1 : P ≤ 1000) (A : Nat → Addr) (w : World) (hA : E13 w A) :
    Calls Tryd.prog 26 #[.int .i64 (m : Int), .agg OA, .int .i64 (n : Int), .agg NA, .slice o P c] w fun e w' => e = .returned (errP A 8) ∧ Below w.heap.size w w' := by
  obtain ⟨W1, hW1⟩ : ∃ W1, w.alloc (.cells OA 41) = W1 := ⟨_, rfl⟩
  obtain ⟨W2, hW2⟩ : ∃ W2, W1.alloc (.cells NA 41) = W2 := ⟨_, rfl⟩
  have hb1 : Below w.heap.size w W1 := by rw [← hW1]; exact new12 _ _
  have hb2 : Below W1.heap.size W1 W2 := by rw [← hW2]; exact new12 _ _
  have hb := Kit.step hb1 hb2
  have CN := gcnt_ok m n hm1 hmn h5 W2
  have hle := Da.cnt_ten n m hm1 hmn h5
  obtain ⟨t, ht⟩ : ∃ t, Da.cnt m n true = t := ⟨_, rfl⟩
  rw [ht] at CN hP hle
  have hd1 : decide ((t : Int) < 0) = false := decide_eq_false (by omega)
  have hd2 : ((P : Int) != (t : Int)) = true := by rw [bne_iff_ne]; omega
  have hd3 : ((P : Int) == (t : Int)) = false := by rw [beq_eq_false_iff_ne]; omega
  have hd4 : (P == t) = false := by rw [beq_eq_false_iff_ne]; exact hP
  have HCN := Lib.hid CN
  have HB := Lib.hid hb
  have HA := Lib.hid (hA.later hb)
  have HW1 := Lib.hid hW1
  have HW2 := Lib.hid hW2
  clear CN hb1 hb2 hb hW1 hW2 hA ht hP hm1 hmn
  go_enter Tryd.func26, Tryd.ntmps26
  go_upto_region 1 with fail
  rw [HW1.out, HW2.out]
  go_wp2_with fail
  refine HCN.out.mono ?_
  rintro e W3 ⟨rfl, hb3⟩
  have hc := (HA.out.later hb3).c7
  have HB3 := Lib.hid (Kit.step HB.out hb3)
  clear hb3
  go_wp2_with fail
  go_ret
  exact ⟨rfl, HB3.out⟩
set_option maxRecDepth 100000 in
set_option maxHeartbeats 4000000 in
theorem gcheck_of (Z : Array Value) (hZ : Z = (bytesV (List.replicate 32 0)).toArray) (hzs : ∀ w, Sem.run Tryd.prog (zeroValue 41) w = .ok (.agg Z) w)
    (m n : Nat) (hm1 : 1 ≤ m) (hmn : m ≤ n) (h5 : n ≤ 512) (old now : List UInt8) (ho : old.length = 32) (hnw : now.length = 32) (ps : List (List UInt8)) (o : Option Addr) (P c : Nat) (hP : ps.length = P) (hcnt : P = Da.cnt m n true) (A : Nat → Addr) (w : World) (hR : DgIs w o ps c) (hV : Cds w) (hA : E13 w A) :
    Calls Tryd.prog 26 #[.int .i64 (m : Int), .agg (bytesV old).toArray, .int .i64 (n : Int), .agg (bytesV now).toArray, .slice o P c] w fun e w' => e = .returned (errP A (if Da.mde m n old true ps = (old, now) then 0 else 15)) ∧ Below w.heap.size w w' := by
  have hal := Da.gsf_all32 ho ps hR.all (Da.ptt 0 m n true)
  rw [Da.mde_gsf n 0 m old true ps hm1 hmn (by rw [hP]; exact hcnt)] at hal
  have hle := Da.cnt_ten n m hm1 hmn h5
  rw [← hcnt] at hle
  have MK := fun v hr hv => gmade_any m n hm1 hmn h5 old ho ps o P c hP hcnt v hr hv
  obtain ⟨r1, hr1⟩ : ∃ r, (Da.mde m n old true ps).1 = r := ⟨_, rfl⟩
  obtain ⟨r2, hr2⟩ : ∃ r, (Da.mde m n old true ps).2 = r := ⟨_, rfl⟩
  have hpair : Da.mde m n old true ps = (r1, r2) := by rw [← hr1, ← hr2]
  rw [hpair] at hal MK ⊢
  obtain ⟨OA, hOA⟩ : ∃ OA, (bytesV old).toArray = OA := ⟨_, rfl⟩
  obtain ⟨NA, hNA⟩ : ∃ NA, (bytesV now).toArray = NA := ⟨_, rfl⟩
  obtain ⟨R1, hR1⟩ : ∃ R1, (bytesV r1).toArray = R1 := ⟨_, rfl⟩
  obtain ⟨R2, hR2⟩ : ∃ R2, (bytesV r2).toArray = R2 := ⟨_, rfl⟩
  have hq1 := fun v => dgq_neq r1 old hal.1 ho v
  have hq2 := fun v => dgq_neq r2 now hal.2 hnw v
  rw [hR1, hOA] at hq1
  rw [hR2, hNA] at hq2
  dsimp only at MK
  rw [hOA, hR1, hR2] at MK
  have HOS : Hid ((Tryd.prog.info? 41).map (·.size) = some OA.size) := Lib.hid (by rw [dg_info, ← hOA]; simp [ho])
  have HNS : Hid ((Tryd.prog.info? 41).map (·.size) = some NA.size) := Lib.hid (by rw [dg_info, ← hNA]; simp [hnw])
  have HS1 : Hid ((Tryd.prog.info? 41).map (·.size) = some R1.size) := Lib.hid (by rw [dg_info, ← hR1]; simp [hal.1])
  have HS2 : Hid ((Tryd.prog.info? 41).map (·.size) = some R2.size) := Lib.hid (by rw [dg_info, ← hR2]; simp [hal.2])
  have HO1 : Hid (R1.all (·.oneCell') = true) := Lib.hid (by rw [← hR1]; exact all_oneCell_toArray (bytesV_one _))
  have HO2 : Hid (R2.all (·.oneCell') = true) := Lib.hid (by rw [← hR2]; exact all_oneCell_toArray (bytesV_one _))
  have HZ1 : Hid (Z.size = R1.size ∧ Z.size = R2.size) := Lib.hid ⟨by rw [hZ, ← hR1]; simp [hal.1], by rw [hZ, ← hR2]; simp [hal.2]⟩
  obtain ⟨g, hg⟩ : ∃ g, w.heap.size = g := ⟨_, rfl⟩
  obtain ⟨W1, hW1⟩ : ∃ W1, w.alloc (.cells OA 41) = W1 := ⟨_, rfl⟩
  obtain ⟨W2, hW2⟩ : ∃ W2, W1.alloc (.cells NA 41) = W2 := ⟨_, rfl⟩
  have hb1 : Below w.heap.size w W1 := by rw [← hW1]; exact new12 _ _
  have hb2 : Below W1.heap.size W1 W2 := by rw [← hW2]; exact new12 _ _
  have hs1 : W1.heap.size = g + 1 := by rw [← hW1, World.size_alloc, hg]
  have ha1 : W1.heap[g]? = some (.cells OA 41 (0, 0)) := by rw [← hW1, ← hg]; exact World.alloc_heap_new w _
  have ha2 : W2.heap[g + 1]? = some (.cells NA 41 (0, 0)) := by rw [← hW2, ← hs1]; exact World.alloc_heap_new W1 _
  have ha12 : W2.heap[g]? = some (.cells OA 41 (0, 0)) := by rw [hb2.block g (by omega)]; exact ha1
  have hb := Kit.step hb1 hb2
  have CN := gcnt_ok m n hm1 hmn h5 W2
  rw [← hcnt] at CN
  have hd1 : decide ((P : Int) < 0) = false := decide_eq_false (by omega)
  have HCN := Lib.hid CN
  have HMK := Lib.hid (fun v (hb : Below w.heap.size w v) => MK v (hR.later hb) (hV.later hb))
  have HB := Lib.hid hb
  have HA := Lib.hid (hA.later hb)
  have HA12 := Lib.hid (And.intro ha12 ha2)
  have HW1 := Lib.hid hW1
  have HW2 := Lib.hid hW2
  have HG := Lib.hid hg
  rw [hOA, hNA]
  clear CN MK hb1 hb2 hb hs1 ha1 ha2 ha12 hW1 hW2 hA hP hcnt hm1 hmn hal hr1 hr2 hpair hOA hNA hR1 hR2 hg hR hV hZ
  go_enter Tryd.func26, Tryd.ntmps26
  go_upto_region 1 with fail
  rw [HW1.out, HW2.out, HG.out]
  go_wp2_with fail
  refine HCN.out.mono ?_
  rintro e W3 ⟨rfl, hb3⟩
  have hB3 := Kit.step HB.out hb3
  have HM3 := Lib.hid (HMK.out W3 hB3)
  have HB3 := Lib.hid hB3
  have HA3 := Lib.hid (HA.out.later hb3)
  have HG3 : Hid (W3.heap[g]? = some (.cells OA 41 (0, 0)) ∧ W3.heap[g + 1]? = some (.cells NA 41 (0, 0))) := Lib.hid
    ⟨by rw [hb3.block g (Array.getElem?_eq_some_iff.1 HA12.out.1).1]; exact HA12.out.1, by rw [hb3.block (g + 1) (Array.getElem?_eq_some_iff.1 HA12.out.2).1]; exact HA12.out.2⟩
  clear hb3 hB3 HCN HMK HA HA12 HW1 HW2
  go_upto_region 6 with fail
  -- STOP1
  apply wp_region_lit
  (refine wpList_plain rfl (fun K hK => ?_); go_simp; refine hK _ _ ?_; clear hK K)
  (refine wpList_plain rfl (fun K hK => ?_); go_simp; refine hK _ _ ?_; clear hK K)
  refine wpList_load_row rfl 41 (.tmp 6) rfl g rfl 41 OA (0, 0) _ HG3.out.1 dg_under rfl HOS.out ?_
  (refine wpList_plain rfl (fun K hK => ?_); go_simp; refine hK _ _ ?_; clear hK K)
  (refine wpList_plain rfl (fun K hK => ?_); go_simp)
  refine HM3.out.mono ?_
  rintro e W4 ⟨rfl, hb4⟩
  refine hK _ _ ?_
  clear hK K HM3
  obtain ⟨p, hp⟩ : ∃ p, W4.heap.size = p := ⟨_, rfl⟩
  obtain ⟨W5, hW5⟩ : ∃ W5, W4.alloc (.cells Z 41) = W5 := ⟨_, rfl⟩
  obtain ⟨W6, hW6⟩ : ∃ W6, W5.alloc (.cells Z 41) = W6 := ⟨_, rfl⟩
  have hb5 : Below W4.heap.size W4 W5 := by rw [← hW5]; exact new12 _ _
  have hb6 : Below W5.heap.size W5 W6 := by rw [← hW6]; exact new12 _ _
  have hs5 : W5.heap.size = p + 1 := by rw [← hW5, World.size_alloc, hp]
  have hz5 : W5.heap[p]? = some (.cells Z 41 (0, 0)) := by rw [← hW5, ← hp]; exact World.alloc_heap_new W4 _
  have hz6 : W6.heap[p]? = some (.cells Z 41 (0, 0)) := by rw [hb6.block p (by omega)]; exact hz5
  have hz7 : (W6.setRow p R1).heap[p + 1]? = some (.cells Z 41 (0, 0)) := by rw [setRow_other W6 p (p + 1) R1 (by omega), ← hW6, ← hs5]; exact World.alloc_heap_new W5 _
  obtain ⟨W8, hW8⟩ : ∃ W8, (W6.setRow p R1).setRow (p + 1) R2 = W8 := ⟨_, rfl⟩
  have hb46 := Kit.step (Kit.step hb4 hb5) hb6
  have hg3 : g + 1 < p := by have := (Array.getElem?_eq_some_iff.1 HG3.out.2).1; have := hb4.size; omega
  have hx1 : W8.heap[p]? = some (.cells R1 41 (0, 0)) := by rw [← hW8, setRow_other _ (p + 1) p R2 (by omega)]; exact setRow_heap _ _ _ _ _ _ hz6
  have hx2 : W8.heap[p + 1]? = some (.cells R2 41 (0, 0)) := by rw [← hW8]; exact setRow_heap _ _ _ _ _ _ hz7
  have hb8 : Below W3.heap.size W3 W8 := by rw [← hW8]; exact (hb46.trans (below_row (by have := hb4.size; omega))).trans (below_row (by have := hb4.size; omega))
  have HX8 : Hid (W8.heap[p]? = some (.cells R1 41 (0, 0)) ∧ W8.heap[p + 1]? = some (.cells R2 41 (0, 0)) ∧ W8.heap[g]? = some (.cells OA 41 (0, 0)) ∧ W8.heap[g + 1]? = some (.cells NA 41 (0, 0))) := Lib.hid
    ⟨hx1, hx2, by rw [hb8.block g (Array.getElem?_eq_some_iff.1 HG3.out.1).1]; exact HG3.out.1, by rw [hb8.block (g + 1) (Array.getElem?_eq_some_iff.1 HG3.out.2).1]; exact HG3.out.2⟩
  have HB8 := Lib.hid (Kit.step HB3.out hb8)
  have HA8 := Lib.hid (HA3.out.later hb8)
  have HP := Lib.hid hp
  have HW5 := Lib.hid hW5
  have HW6 := Lib.hid hW6
  have HW8 := Lib.hid hW8
  have HS5 := Lib.hid hs5
  have HZ6 := Lib.hid hz6
  have HZ7 := Lib.hid hz7
  clear hp hW5 hW6 hb5 hb6 hs5 hz5 hz6 hz7 hW8 hb46 hg3 hx1 hx2 hb8 hb4
  (refine wpList_plain rfl (fun K hK => ?_); go_simp; refine hK _ _ ?_; clear hK K)
  (refine wpList_plain rfl (fun K hK => ?_); go_simp; refine hK _ _ ?_; clear hK K)
  (refine wpList_plain rfl (fun K hK => ?_); go_simp; refine hK _ _ ?_; clear hK K)
  (refine wpList_plain rfl (fun K hK => ?_); go_simp; refine hK _ _ ?_; clear hK K)
  rw [HW5.out, HP.out]
  (refine wpList_plain rfl (fun K hK => ?_); go_simp; refine hK _ _ ?_; clear hK K)
  rw [HW6.out, HS5.out]
  refine wpList_store_row rfl 41 (.tmp 12) (.tmp 31) rfl p R1 rfl rfl 41 Z HZ6.out HS1.out HZ1.out.1 HO1.out ?_
  refine wpList_store_row rfl 41 (.tmp 13) (.tmp 32) rfl (p + 1) R2 rfl rfl 41 Z HZ7.out HS2.out HZ1.out.2 HO2.out ?_
  rw [HW8.out]
  refine wpList_nil ?_
  go_upto_region 7 with fail
  -- STOP2
  by_cases he1 : r1 = old
  · rw [he1, beq_self_eq_true, Bool.not_true] at hq1
    by_cases he2 : r2 = now
    · rw [he2, beq_self_eq_true, Bool.not_true] at hq2
      have HEE := Lib.hid (show (r1, r2) = (old, now) by rw [he1, he2])
      clear he1 he2
      apply wp_region_lit
      refine wpList_load_row rfl 41 (.tmp 12) rfl p rfl 41 R1 (0, 0) _ HX8.out.1 dg_under rfl HS1.out ?_
      refine wpList_load_row rfl 41 (.tmp 6) rfl g rfl 41 OA (0, 0) _ HX8.out.2.2.1 dg_under rfl HOS.out ?_
      (refine wpList_plain rfl (fun K hK => ?_); go_simp; refine hK _ _ ?_; clear hK K)
      (refine wpList_plain rfl (fun K hK => ?_); go_simp; refine hK _ _ ?_; clear hK K)
      refine BigFrame.wpList_want (by rfl) (fun K hK => wp_load_row 41 (.tmp 13) rfl (p + 1) rfl 41 R2 (0, 0) _ HX8.out.2.1 dg_under rfl HS2.out (hK _ _ ?_))
      clear hK K
      refine BigFrame.wpList_want (by rfl) (fun K hK => wp_load_row 41 (.tmp 8) rfl (g + 1) rfl 41 NA (0, 0) _ HX8.out.2.2.2 dg_under rfl HNS.out (hK _ _ ?_))
      clear hK K
      (refine BigFrame.wpList_want (by rfl) (fun K hK => ?_); go_simp; refine hK _ _ ?_; clear hK K)
      (refine wpList_plain rfl (fun K hK => ?_); go_simp; refine hK _ _ ?_; clear hK K)
      go_wp2_with fail
      go_ret
      first | exact ⟨rfl, HB8.out⟩ | exact ⟨by rw [if_pos HEE.out]; rfl, HB8.out⟩
    · have hn2 : (r2 == now) = false := by rw [beq_eq_false_iff_ne]; exact he2
      rw [hn2, Bool.not_false] at hq2
      have HEE := Lib.hid (show ¬ (r1, r2) = (old, now) from fun h => he2 (congrArg Prod.snd h))
      clear he1 he2 hn2
      apply wp_region_lit
      refine wpList_load_row rfl 41 (.tmp 12) rfl p rfl 41 R1 (0, 0) _ HX8.out.1 dg_under rfl HS1.out ?_
      refine wpList_load_row rfl 41 (.tmp 6) rfl g rfl 41 OA (0, 0) _ HX8.out.2.2.1 dg_under rfl HOS.out ?_
      (refine wpList_plain rfl (fun K hK => ?_); go_simp; refine hK _ _ ?_; clear hK K)
      (refine wpList_plain rfl (fun K hK => ?_); go_simp; refine hK _ _ ?_; clear hK K)
      refine BigFrame.wpList_want (by rfl) (fun K hK => wp_load_row 41 (.tmp 13) rfl (p + 1) rfl 41 R2 (0, 0) _ HX8.out.2.1 dg_under rfl HS2.out (hK _ _ ?_))
      clear hK K
      refine BigFrame.wpList_want (by rfl) (fun K hK => wp_load_row 41 (.tmp 8) rfl (g + 1) rfl 41 NA (0, 0) _ HX8.out.2.2.2 dg_under rfl HNS.out (hK _ _ ?_))
      clear hK K
      (refine BigFrame.wpList_want (by rfl) (fun K hK => ?_); go_simp; refine hK _ _ ?_; clear hK K)
      (refine wpList_plain rfl (fun K hK => ?_); go_simp; refine hK _ _ ?_; clear hK K)
      have hc := HA8.out.c14
      go_wp2_with fail
      go_ret
      first | exact ⟨rfl, HB8.out⟩ | exact ⟨by rw [if_neg HEE.out]; rfl, HB8.out⟩
  · have hn1 : (r1 == old) = false := by rw [beq_eq_false_iff_ne]; exact he1
    rw [hn1, Bool.not_false] at hq1
    have HEE := Lib.hid (show ¬ (r1, r2) = (old, now) from fun h => he1 (congrArg Prod.fst h))
    clear he1 hn1
    apply wp_region_lit
    refine wpList_load_row rfl 41 (.tmp 12) rfl p rfl 41 R1 (0, 0) _ HX8.out.1 dg_under rfl HS1.out ?_
    refine wpList_load_row rfl 41 (.tmp 6) rfl g rfl 41 OA (0, 0) _ HX8.out.2.2.1 dg_under rfl HOS.out ?_
    (refine wpList_plain rfl (fun K hK => ?_); go_simp; refine hK _ _ ?_; clear hK K)
    (refine wpList_plain rfl (fun K hK => ?_); go_simp; refine hK _ _ ?_; clear hK K)
    have hc := HA8.out.c14
    go_wp2_with fail
    go_ret
    first | exact ⟨rfl, HB8.out⟩ | exact ⟨by rw [if_neg HEE.out]; rfl, HB8.out⟩
theorem gcheck_any (A : Nat → Addr) (W : World) (m n : Int) (old now : List UInt8) (ps : List (List UInt8)) (o : Option Addr) (c : Nat) (ho : old.length = 32) (hnw : now.length = 32) (hl : ps.length ≤ 1000) (hR : DgIs W o ps c) (hV : Cds W) (hA : E13 W A) :
    Calls Tryd.prog 26 #[.int .i64 m, .agg (bytesV old).toArray, .int .i64 n, .agg (bytesV now).toArray, .slice o ps.length c] W fun e w' => e = .returned (errP A (Da.gch m old n now ps)) ∧ Below W.heap.size W w' := by
  unfold Da.gch
  by_cases h : 1 ≤ m ∧ m ≤ n ∧ n ≤ 512
  · rw [if_pos h]
    obtain ⟨h1, h2, h3⟩ := h
    obtain ⟨m', rfl⟩ := Int.eq_ofNat_of_zero_le (show 0 ≤ m by omega)
    obtain ⟨n', rfl⟩ := Int.eq_ofNat_of_zero_le (show 0 ≤ n by omega)
    rw [Int.toNat_natCast, Int.toNat_natCast]
    by_cases hc : ps.length = Da.cnt m' n' true
    · rw [if_pos hc]
      exact gcheck_of _ rfl dg_zero m' n' (by omega) (by omega) (by omega) old now ho hnw ps o ps.length c rfl hc A W hR hV hA
    · rw [if_neg hc]
      exact gcheck_size m' n' (by omega) (by omega) (by omega) _ _ o ps.length c hc hl A W hA
  · rw [if_neg h]
    exact gcheck_range m n h _ _ _ A W hA
theorem grc14 (A : Nat → Addr) : GrC A where
  prove := fun W ds o n c m hdl h1 h2 h5 hR hV => gprove_any ds o n c m hdl W h1 h2 h5 hR hV
  bad := fun W ds o n c m _ hb _ _ hA => (gprove_bad n c o m hb A W hA).mono fun e w' h => ⟨none, 0, h.1, h.2⟩
  count := fun W m n => gcount_any m n W
  check := fun W m n old now ps o c ho hn hl hR hV hA => gcheck_any A W m n old now ps o c ho hn hl hR hV hA
  alive := fun W hV hD => al14_any A FRd14 (frc14 A) W hV hD
end Go.Proofs.YtfccpfmgkpcnoaaDoor
