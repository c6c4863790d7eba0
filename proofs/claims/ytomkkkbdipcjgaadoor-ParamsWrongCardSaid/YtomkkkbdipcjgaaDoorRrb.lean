/- The document's Rebuild, plain: a part as far as it has been laid, the blocks that were hit. The document's Rebuild. -/
import Derived.Test.YtomkkkbdipcjgaaDoorRbd
import Derived.Test.YtomkkkbdipcjgaaDoorRep
import Derived.Test.YtomkkkbdipcjgaaDoorDox
namespace Go.Proofs.YtomkkkbdipcjgaaDoor
open Go.RowKit
set_option linter.unusedVariables false
set_option linter.unusedSimpArgs false
/-- the part with j columns laid, and i bytes of the next -/
def ptA (vs : Nat → List UInt8) (k j i : Nat) : List UInt8 := tab (fun q => if q % 8 < j ∨ (q % 8 = j ∧ q / 8 < i) then co (vs (q % 8)) (q / 8) else 0) (8 * k)
@[simp] theorem ptA_length (vs : Nat → List UInt8) (k j i : Nat) : (ptA vs k j i).length = 8 * k := by simp [ptA]
theorem ptA_start (vs : Nat → List UInt8) (k : Nat) : ptA vs k 0 0 = List.replicate (8 * k) 0 := list_ext (by simp) fun q hq => by
  have hq : q < 8 * k := by simpa using hq
  unfold ptA
  rw [co_tab _ _ _ hq, if_neg (by omega), zeros_co]
theorem ptA_put (vs : Nat → List UInt8) (k j i : Nat) (hi : i < k) (hj : j < 8) : (ptA vs k j i).set (8 * i + j) (co (vs j) i) = ptA vs k j (i + 1) := list_ext (by simp) fun q hq => by
  have hq : q < 8 * k := by simpa using hq
  rw [co_set]
  unfold ptA
  rw [co_tab _ _ _ hq, co_tab _ _ _ hq]
  by_cases e : 8 * i + j = q
  · subst e
    have e1 : (8 * i + j) % 8 = j := by omega
    have e2 : (8 * i + j) / 8 = i := by omega
    rw [if_pos ⟨rfl, by simpa using hq⟩, e1, e2, if_pos (by omega)]
  · rw [if_neg (fun g => e g.1)]
    by_cases h : q % 8 < j ∨ (q % 8 = j ∧ q / 8 < i)
    · rw [if_pos h, if_pos (by omega)]
    · rw [if_neg h, if_neg (by omega)]
theorem ptA_next (vs : Nat → List UInt8) (k j : Nat) : ptA vs k j k = ptA vs k (j + 1) 0 := list_ext (by simp) fun q hq => by
  have hq : q < 8 * k := by simpa using hq
  unfold ptA
  rw [co_tab _ _ _ hq, co_tab _ _ _ hq]
  by_cases h : q % 8 < j + 1
  · rw [if_pos (by omega), if_pos (by omega)]
  · rw [if_neg (by omega), if_neg (by omega)]
theorem ptA_all (vs : Nat → List UInt8) (k : Nat) : ptA vs k 8 0 = prt vs k := list_ext (by simp) fun q hq => by
  have hq : q < 8 * k := by simpa using hq
  unfold ptA prt
  rw [co_tab _ _ _ hq, co_tab _ _ _ hq, if_pos (by omega)]
theorem ptA_congr {vs us : Nat → List UInt8} (k j : Nat) (h : ∀ t, t < j → vs t = us t) : ptA vs k j 0 = ptA us k j 0 := list_ext (by simp) fun q hq => by
  have hq : q < 8 * k := by simpa using hq
  unfold ptA
  rw [co_tab _ _ _ hq, co_tab _ _ _ hq]
  by_cases g : q % 8 < j
  · rw [if_pos (by omega), if_pos (by omega), h _ g]
  · rw [if_neg (by omega), if_neg (by omega)]
/-- the blocks hit in the first j columns -/
def hitK (G : List (List UInt8)) (vs : Nat → List UInt8) : Nat → Nat → Bool
  | 0, _ => false
  | j + 1, i => hitK G vs j i || decide (co (vs j) i ≠ co (colB G j) i)
theorem hitK_congr {G : List (List UInt8)} {vs us : Nat → List UInt8} (j i : Nat) (h : ∀ t, t < j → vs t = us t) : hitK G vs j i = hitK G us j i := by
  induction j with
  | zero => rfl
  | succ j ih =>
    unfold hitK
    rw [ih (fun t ht => h t (by omega)), h j (by omega)]
theorem hitK_iff (G : List (List UInt8)) (vs : Nat → List UInt8) (j i : Nat) : hitK G vs j i = true ↔ ∃ t, t < j ∧ co (vs t) i ≠ co (colB G t) i := by
  induction j with
  | zero => simp [hitK]
  | succ j ih =>
    unfold hitK
    rw [Bool.or_eq_true, ih, decide_eq_true_eq]
    constructor
    · rintro (⟨t, h1, h2⟩ | h)
      · exact ⟨t, by omega, h2⟩
      · exact ⟨j, by omega, h⟩
    · rintro ⟨t, h1, h2⟩
      by_cases e : t = j
      · subst e
        exact .inr h2
      · exact .inl ⟨t, by omega, h2⟩
theorem hitK_all (G : List (List UInt8)) (vs : Nat → List UInt8) (i : Nat) (hi : i < G.length) (h8 : (bi G i).length = 8) : hitK G vs 8 i = hitB G vs i := by
  have hc : ∀ t, co (colB G t) i = co (bi G i) t := fun t => by
    rw [co_colB _ _ _ hi]
    unfold colV
    rw [if_pos h8]
  unfold hitB
  rw [decide_eq_true h8, Bool.true_and]
  by_cases h : bi G i = mbk vs i
  · rw [decide_eq_false (by simpa using h)]
    rw [Bool.eq_false_iff]
    intro hk
    obtain ⟨t, h1, h2⟩ := (hitK_iff G vs 8 i).1 hk
    rw [hc, h] at h2
    unfold mbk at h2
    rw [co_tab _ _ _ h1] at h2
    exact h2 rfl
  · rw [decide_eq_true h]
    refine (hitK_iff G vs 8 i).2 ?_
    refine Classical.byContradiction fun hn => h (list_ext (by rw [h8, mbk_length]) fun t ht => ?_)
    rw [h8] at ht
    unfold mbk
    rw [co_tab _ _ _ ht, ← hc]
    exact Classical.byContradiction fun hq => hn ⟨t, ht, fun e => hq e.symm⟩
theorem hitB_no (G : List (List UInt8)) (vs : Nat → List UInt8) (i : Nat) (h : ¬ (bi G i).length = 8) : hitB G vs i = false := by
  unfold hitB
  rw [decide_eq_false h]
  rfl
theorem dfL_iff (a b : List UInt8) (n p : Nat) : (p : Int) ∈ dfL a b n ↔ p < n ∧ co a p ≠ co b p := by
  induction n with
  | zero => simp [dfL]
  | succ n ih =>
    unfold dfL
    split
    · rename_i h
      rw [ih]
      constructor
      · rintro ⟨h1, h2⟩
        exact ⟨by omega, h2⟩
      · rintro ⟨h1, h2⟩
        refine ⟨?_, h2⟩
        by_cases e : p = n
        · subst e
          exact absurd h h2
        · omega
    · rename_i h
      rw [List.mem_append, ih, List.mem_singleton]
      constructor
      · rintro (⟨h1, h2⟩ | h1)
        · exact ⟨by omega, h2⟩
        · obtain rfl : p = n := by omega
          exact ⟨by omega, h⟩
      · rintro ⟨h1, h2⟩
        by_cases e : p = n
        · exact .inr (by omega)
        · exact .inl ⟨by omega, h2⟩
/-- what Fix answers to a column -/
def RyTo (W : List UInt8) (n : Nat) (z : List Int) (w : World) (e : Ending) (w' : World) : Prop :=
  Below w.heap.size w w' ∧ (((∀ v H, ¬ Chg v W n z H) ∧ ∃ a : Nat, 0 < a ∧ a ≤ 20 ∧ e = bad_r a) ∨
    ∃ (v : List UInt8) (H : List Nat) (x1 x2 : Value), Chg v W n z H ∧ e = .returned (.tuple #[x1, x2, .int .i64 (H.length : Int), .int .i64 0]) ∧ Frs v x1 w w' ∧ FrI (dfL v W n) x2 w w')
/-- two rows of numbers, apart, and a row of bytes -/
structure Rj (F : List UInt8) (vF vE vC : Value) (zE zC : List Int) (w X : World) : Prop where
  f : X.ownsRow w.heap.size 5 1 vF F.length (bytesV F)
  e : X.ownsRow w.heap.size 3 1 vE zE.length (intsV zE)
  c : X.ownsRow w.heap.size 3 1 vC zC.length (intsV zC)
  ne : vE.ownBlock = none ∨ vE.ownBlock ≠ vC.ownBlock
  below : Below w.heap.size w X
theorem Rj.later {F : List UInt8} {vF vE vC : Value} {zE zC : List Int} {w X X' : World} (h : Rj F vF vE vC zE zC w X) (hb : Below X.heap.size X X') : Rj F vF vE vC zE zC w X' :=
  ⟨owns_laterB h.f hb, owns_laterB h.e hb, owns_laterB h.c hb, h.ne, Kit.step h.below hb⟩
theorem Rj.new {F : List UInt8} {vF vE vC : Value} {zE zC : List Int} {w X : World} (h : Rj F vF vE vC zE zC w X) (y : Int) : Ic X.heap.size y vE vC (X.alloc (.cells #[.int .i64 y] 3)) :=
  ⟨cell_new X _ _ _ rfl, by simp, fun e => by have := (World.ownsRow.lt h.e _ e).2; omega, fun e => by have := (World.ownsRow.lt h.c _ e).2; omega⟩
theorem Rj.app {F : List UInt8} {vF vE vC : Value} {zE zC : List Int} {w X : World} (h : Rj F vF vE vC zE zC w X) (b : Nat) (y : Int) (hi : Ic b y vE vC X) (ty : TypeId) (hl : zE.length ≤ 1000000) :
    ∃ (o : Option Addr) (l c : Nat) (X' : World), (Builtin.append_ #[74, 74] ty #[vE, .slice (some ⟨b, 0, none⟩) 1 1]).run Tryd.prog X = .ok (.slice o l c) X' ∧ Rj F vF (.slice o l c) vC (zE ++ [y]) zC w X' ∧ ∀ b' y', Ic b' y' vE vC X → Ic b' y' (.slice o l c) vC X' := by
  obtain ⟨o, l, c, X', hr, ho, hg, hb⟩ := append_int_run X ty w.heap.size vE zE.length zE h.e b y hi.cell hl h.below.size
  refine ⟨o, l, c, X', hr, ⟨?_, by rw [List.length_append]; exact ho, ?_, ?_, own_belowB h.below h.e hg⟩, fun b' y' h' => ⟨?_, Nat.lt_of_lt_of_le h'.lt hg.size, ?_, h'.neC⟩⟩
  · exact World.ownsRow.kept h.f hg (own_ne_of h.f h.e (by decide))
  · refine World.ownsRow.kept h.c hg ?_
    rcases h.ne with h1 | h1
    · rw [h1]
      cases hc : vC.ownBlock <;> simp
    · exact .inr fun e => h1 e.symm
  · rcases hb with hb | hb
    · rw [hb]; exact h.ne
    · refine .inr fun e => ?_
      rw [hb] at e
      have := (World.ownsRow.lt h.c _ e.symm).2
      omega
  · exact World.grownBy.cell hg h'.cell (fun e => h'.neE e.symm)
  · rcases hb with hb | hb
    · rw [hb]; exact h'.neE
    · rw [hb]
      intro e
      have := h'.lt
      injection e with e
      omega
theorem Rj.swap {F : List UInt8} {vF vE vC : Value} {zE zC : List Int} {w X : World} (h : Rj F vF vE vC zE zC w X) : Rj F vF vC vE zC zE w X := ⟨h.f, h.c, h.e, by
  rcases h.ne with h1 | h1
  · by_cases e : vC.ownBlock = none
    · exact .inl e
    · exact .inr fun e2 => e (e2.trans h1)
  · exact .inr fun e => h1 e.symm, h.below⟩
theorem dfL_rng (a b : List UInt8) (n : Nat) : ∀ x ∈ dfL a b n, ∃ p : Nat, x = (p : Int) ∧ p < n := by
  induction n with
  | zero => intro x hx; simp [dfL] at hx
  | succ n ih =>
    intro x hx
    unfold dfL at hx
    split at hx
    · obtain ⟨p, h1, h2⟩ := ih x hx
      exact ⟨p, h1, by omega⟩
    · rcases List.mem_append.1 hx with h | h
      · obtain ⟨p, h1, h2⟩ := ih x h
        exact ⟨p, h1, by omega⟩
      · rw [List.mem_singleton] at h
        exact ⟨n, h, by omega⟩
theorem ci_rng (a b : List UInt8) (n k : Nat) (hk : k < (dfL a b n).length) : ∃ p : Nat, ci (dfL a b n) k = (p : Int) ∧ p < n := by
  refine dfL_rng a b n _ ?_
  unfold ci
  rw [List.getD_eq_getElem?_getD, List.getElem?_eq_getElem hk]
  exact List.getElem_mem hk
theorem own_ne_T {T T' : TypeId} {X : World} {b n S : Nat} {v : Value} {xs : List Value} {C : Array Value} {f : Nat × Nat} (ho : X.ownsRow b T 1 v n xs) (hs : X.heap[S]? = some (.cells C T' f)) (hT : T ≠ T') : v.ownBlock = none ∨ v.ownBlock ≠ some S := by
  rcases ho.2 with ⟨rfl, _⟩ | ⟨gq, cap, cur, rfl, _, hq, _⟩
  · exact .inl rfl
  · refine .inr fun e => ?_
    injection e with e
    have e : gq = S := e
    rw [e, hs] at hq
    injection hq with hq
    injection hq with _ hq _
    exact hT hq.symm
theorem Rj.fin {F Y : List UInt8} {vF vE vC v' : Value} {zE zC : List Int} {w X X' : World} {k : Nat} (h : Rj F vF vE vC zE zC w X) (hg : X.grownBy X' vF.ownBlock) (hv : X'.ownsRow w.heap.size 5 1 v' (F.length + k) (bytesV (F ++ Y))) (hk : k = Y.length) : Rj (F ++ Y) v' vE vC zE zC w X' :=
  ⟨by rw [List.length_append, ← hk]; exact hv, World.ownsRow.kept h.e hg (own_ne_of h.e h.f (by decide)), World.ownsRow.kept h.c hg (own_ne_of h.c h.f (by decide)), h.ne, own_belowB h.below h.f hg⟩
end Go.Proofs.YtomkkkbdipcjgaaDoor
namespace Go.Proofs.YtomkkkbdipcjgaaDoor
open Go.RowKit
set_option linter.unusedVariables false
set_option linter.unusedSimpArgs false
def r4 (k : Nat) : Ending := .returned (.tuple #[.slice none 0 0, .slice none 0 0, .slice none 0 0, .int .i64 (k : Int)])
theorem rtotal_any (n : Nat) (w : World) (hn : n ≤ 2000) :
    Calls Tryd.prog 17 #[.int .i64 (n : Int)] w fun e w' => e = .returned (.tuple #[.int .i64 ((totN (nbk n) : Nat) : Int), .int .i64 0]) ∧ Below w.heap.size w w' := by
  have HS := Lib.hid (rshape_any n w hn)
  have hb := nbk_bd n hn
  have hl := shp_len n
  have hs := shp_sum n
  have HT : Hid (sumN (shp n) + 32 * (shp n).length = totN (nbk n)) := Lib.hid (by rw [shp_sum]; rfl)
  obtain ⟨l, hlq⟩ : ∃ l, shp n = l := ⟨_, rfl⟩
  rw [hlq] at HS hl HT hs
  have HSM : Hid (sumN l ≤ 1000000) := Lib.hid (by omega)
  clear hlq hs
  go_enter Tryd.func17, Tryd.ntmps17
  go_wp2_with fail
  refine HS.out.mono ?_; rintro e w1 ⟨x, rfl, ⟨o, c, rfl, hr⟩, hb1⟩
  have h1 := hr.le
  have h2 := hr.cap
  simp at h1
  unfold maxLen at h2
  have HR := Lib.hid hr
  have HB := Lib.hid hb1
  rw [natI_length]
  clear hr hb1 HS
  go_wp2_with fail
  go_loopw [6, 16] (fun s i wr => TtAt l w1 s i wr) (fun _ i _ => l.length - (intOf i).toNat)
  case atStart => exact ⟨0, Nat.zero_le _, rfl, rfl, rfl⟩
  case round =>
    obtain ⟨k, hk, rfl, rfl, rfl⟩ := hrel
    by_cases hlt : k < l.length
    · obtain ⟨b, off, rfl, _, hc⟩ := natI_cell HR.out k hlt
      have hst := sumN_take_succ l k hlt
      have hle := sumN_take_le l (k + 1)
      have hle2 := HSM.out
      have hk0 : (0 : Int) ≤ (k : Int) := by omega
      have hk1 : (k : Int) < (l.length : Int) := by omega
      obtain ⟨s, hs⟩ : ∃ s, sumN (l.take k) + 32 * k = s := ⟨_, rfl⟩
      rw [hs]
      have hs1 : s ≤ 2000000 := by omega
      have hx : l.getD k 0 ≤ 1000000 := by omega
      generalize l.getD k 0 = x at *
      have HX : Hid (sumN (l.take (k + 1)) + 32 * (k + 1) = s + (x + 32)) := Lib.hid (by omega)
      clear hst hle hle2 hs
      go_wp2_with fail
      go_roundw
      case rel => exact ⟨k + 1, by omega, by go_num, by rw [HX.out]; go_num, rfl⟩
      case measure => simp [intOf]; omega
    · obtain rfl : k = l.length := by omega
      rw [List.take_length]
      go_wp2_with fail
      go_ret2
      rw [HT.out]
      exact ⟨rfl, HB.out⟩
def RrTo (bs : List (List UInt8)) (l : List Nat) (size : Nat) (w : World) (e : Ending) (w' : World) : Prop :=
  Below w.heap.size w w' ∧ (((∀ V, MndAll bs l V l.length → ¬ zall ((fileG l V l.length).drop size)) ∧ e = r4 17) ∨
    ∃ V x0 x1 x2, MndAll bs l V l.length ∧ zall ((fileG l V l.length).drop size) ∧ e = .returned (.tuple #[x0, x1, x2, .int .i64 0]) ∧ RowV ((fileG l V l.length).take size) x0 w' ∧ IntsV (erG bs l l.length) x1 w' ∧ IntsV (chG bs l V l.length) x2 w')
def RrAt (bs : List (List UInt8)) (l : List Nat) (w : World) (v0 vF vE vC iv : Value) (wr : World) : Prop :=
  ∃ (k B : Nat) (V : Nat → Nat → List UInt8), k ≤ l.length ∧ B = atG l k ∧ iv = .int .i64 k ∧ RbV (bs.drop B) v0 w ∧ MndAll bs l V k ∧ Rj (fileG l V k) vF vE vC (erG bs l k) (chG bs l V k) w wr
def R3At' (G : List (List UInt8)) (m s P gP gH : Nat) (w : World) (jv : Value) (wr : World) : Prop :=
  ∃ (j : Nat) (vs : Nat → List UInt8), j ≤ 8 ∧ jv = .int .i64 j ∧ (∀ t, t < j → ∃ H, Chg (vs t) (colB G t) m (gnL G m) H) ∧ Buf wr gP P (ptA vs s j 0) ∧ BRow wr gH m (hitK G vs j) ∧ Below w.heap.size w wr
def R5At' (vs : Nat → List UInt8) (s j P gP : Nat) (w : World) (iv : Value) (wr : World) : Prop :=
  ∃ i : Nat, i ≤ s ∧ iv = .int .i64 i ∧ Buf wr gP P (ptA vs s j i) ∧ Only gP w wr
def R6At' (G : List (List UInt8)) (vs : Nat → List UInt8) (D : List Int) (m j gH : Nat) (w : World) (iv : Value) (wr : World) : Prop :=
  ∃ q : Nat, q ≤ D.length ∧ iv = .int .i64 q ∧ BRow wr gH m (fun i => if hitK G vs j i then true else decide ((i : Int) ∈ D.take q)) ∧ Only gH w wr
def R7At' (G : List (List UInt8)) (vs : Nat → List UInt8) (m : Nat) (w : World) (nv iv : Value) (wr : World) : Prop :=
  ∃ i : Nat, i ≤ m ∧ iv = .int .i64 i ∧ nv = .int .i64 (chN G vs i : Nat) ∧ wr = w
def R8At' (z : List UInt8) (w : World) (iv : Value) (wr : World) : Prop :=
  ∃ i : Nat, i ≤ z.length ∧ iv = .int .i64 i ∧ (∀ q, q < i → co z q = 0) ∧ wr = w
end Go.Proofs.YtomkkkbdipcjgaaDoor
