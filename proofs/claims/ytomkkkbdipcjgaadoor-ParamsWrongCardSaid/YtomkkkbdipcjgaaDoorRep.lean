/- Helpers of LocatePlaces: rows of numbers beside rows of Booleans and bytes; roots sought by trying. The code's parts of mending: an inverse, whether a size fits, the places of a locator's roots, the amount at a place, what is left of the parity. The code's amount at a place, and what is left of the parity. The code's mending of a word by a locator and an evaluator. The code's Fix and Only: a word is mended just if it can be, to the one code word that is near. The answer of law05 to its example. -/
import Derived.Test.YtomkkkbdipcjgaaDoorPe
import Derived.Test.YtomkkkbdipcjgaaDoorLoc
import Derived.Test.YtomkkkbdipcjgaaDoorOp
import Derived.Test.YtomkkkbdipcjgaaDoorFq
import Derived.Test.YtomkkkbdipcjgaaDoorIns
import Derived.Test.YtomkkkbdipcjgaaDoorErr
import Derived.Test.YtomkkkbdipcjgaaDoorApw
import Derived.BigQuiet
namespace Go.Proofs.YtomkkkbdipcjgaaDoor
open Go.RowKit
set_option linter.unusedVariables false
set_option linter.unusedSimpArgs false
theorem info_bool4 : (Tryd.prog.info? 4).map (fun i => (i.zero, i.size, i.bytes)) = some (some (.bool false), 1, 1) := by kernel_rfl
/-- the place that a number stands for -/
def plc4 (q : Int) (N : Nat) : Nat := (q % 18446744073709551616).toNat % N
theorem plc_lt4 (q : Int) (N : Nat) (h : 0 < N) : plc4 q N < N := Nat.mod_lt _ h
theorem wrap_u644 (q : Int) : IntKind.u64.wrap q = ((q % 18446744073709551616).toNat : Int) := by
  have h : 0 ≤ q % 18446744073709551616 := Int.emod_nonneg _ (by decide)
  rw [Int.toNat_of_nonneg h]
  simp [IntKind.wrap, IntKind.bits, IntKind.signed]
theorem BRow.cong {W : World} {g n : Nat} {f f' : Nat → Bool} (h : BRow W g n f) (he : ∀ i, i < n → f i = f' i) : BRow W g n f' := by
  unfold BRow at *
  rw [h]
  congr 2
  exact congrArg List.toArray (List.map_congr_left fun i hi => by rw [he i (List.mem_range.1 hi)])
theorem buf_same4 {W W' : World} {g cap : Nat} {ys : List UInt8} (h : Buf W g cap ys) (e : W'.heap[g]? = W.heap[g]?) : Buf W' g cap ys := by
  obtain ⟨hl, hx⟩ := h
  refine ⟨hl, ?_⟩
  rcases hx with h0 | ⟨g', cap', cur, hv, hb, hh, rest⟩
  · exact .inl h0
  · have hg : g = g' := by injection hv with h1 _ _; injection h1 with h1; injection h1
    subst hg
    exact .inr ⟨g, cap', cur, hv, hb, e.trans hh, rest⟩
theorem own_block {W : World} {n : Nat} {v : Value} {m : Nat} {xs : List Value} {k : Nat} (h : W.ownsRow n 3 1 v m xs) (hk : some k = v.ownBlock) : ∃ cur, W.heap[k]? = some (.cells cur 3 (0, 0)) := by
  rcases h.2 with ⟨rfl, _⟩ | ⟨g, cap, cur, rfl, _, hh, _⟩
  · cases hk
  · cases hk
    exact ⟨cur, hh⟩
theorem BRow.grown {W W' : World} {g n m b : Nat} {f : Nat → Bool} {v : Value} {xs : List Value} (h : BRow W g n f) (ho : W.ownsRow b 3 1 v m xs) (hg : W.grownBy W' v.ownBlock) : BRow W' g n f := by
  have hne : some g ≠ v.ownBlock := fun e => by
    obtain ⟨cur, hc⟩ := own_block ho e
    have h2 : W.heap[g]? = _ := h
    rw [hc] at h2
    injection h2 with h2
    injection h2 with _ h2 _
    exact absurd h2 (by decide)
  unfold BRow at *
  rw [World.grownBy.block hg g (Array.getElem?_eq_some_iff.1 h).1 hne]; exact h
theorem buf_grown {W W' : World} {g cap m b : Nat} {ys : List UInt8} {v : Value} {xs : List Value} (h : Buf W g cap ys) (ho : W.ownsRow b 3 1 v m xs) (hg : W.grownBy W' v.ownBlock) : Buf W' g cap ys := by
  obtain ⟨cu, hcu⟩ := h.cells
  have hne : some g ≠ v.ownBlock := fun e => by
    obtain ⟨cur, hc⟩ := own_block ho e
    rw [hc] at hcu
    injection hcu with h2
    injection h2 with _ h2 _
    exact absurd h2 (by decide)
  exact buf_same4 h (World.grownBy.block hg g h.lt hne)
theorem own_only {W W' : World} {n k : Nat} {v : Value} {m : Nat} {xs : List Value} {cs : Array Value} {T : TypeId} {fr : Nat × Nat} (h : W.ownsRow n 3 1 v m xs) (ho : Only k W W') (hk : W.heap[k]? = some (.cells cs T fr)) (hT : T ≠ 3) : W'.ownsRow n 3 1 v m xs := by
  obtain ⟨hl, hx⟩ := h
  refine ⟨hl, ?_⟩
  rcases hx with h0 | ⟨g', cap', cur, hv, hb, hh, rest⟩
  · exact .inl h0
  · refine .inr ⟨g', cap', cur, hv, hb, ?_, rest⟩
    have hne : some g' ≠ some k := fun e => by
      cases e
      rw [hk] at hh
      injection hh with h2
      injection h2 with _ h2 _
      exact hT h2
    rw [World.grownBy.block ho g' (Array.getElem?_eq_some_iff.1 hh).1 hne]; exact hh
theorem own_laterI {W W' : World} {n : Nat} {v : Value} {xs : List Value} {m : Nat} (h : W.ownsRow n 3 1 v m xs) (hb : Below W.heap.size W W') : W'.ownsRow n 3 1 v m xs := by
  obtain ⟨hl, hx⟩ := h
  refine ⟨hl, ?_⟩
  rcases hx with hx | ⟨g', cap', cur, h, h0, hh, h4⟩
  · exact .inl hx
  · exact .inr ⟨g', cap', cur, h, h0, by rw [hb.block g' (Array.getElem?_eq_some_iff.1 hh).1]; exact hh, h4⟩
theorem heap_grown {W W' : World} {k m b : Nat} {v : Value} {xs : List Value} {ca : Array Value} {T : TypeId} {fr : Nat × Nat} (h : W.heap[k]? = some (.cells ca T fr)) (hT : T ≠ 3) (ho : W.ownsRow b 3 1 v m xs) (hg : W.grownBy W' v.ownBlock) : W'.heap[k]? = some (.cells ca T fr) := by
  have hne : some k ≠ v.ownBlock := fun e => by
    obtain ⟨cur, hc⟩ := own_block ho e
    rw [h] at hc
    injection hc with h2
    injection h2 with _ h2 _
    exact hT h2
  rw [World.grownBy.block hg k (Array.getElem?_eq_some_iff.1 h).1 hne]; exact h
/-- is there one among the first values? -/
def rootB (x : UInt8) (M : List UInt8) (k : Nat) : Bool := (List.range k).any fun j => decide (Gf.gm x (UInt8.ofNat (j + 1)) = 1) && decide (evL M (UInt8.ofNat (j + 1)) = 0)
theorem rootB_succ (x : UInt8) (M : List UInt8) (k : Nat) : rootB x M (k + 1) = (rootB x M k || (decide (Gf.gm x (UInt8.ofNat (k + 1)) = 1) && decide (evL M (UInt8.ofNat (k + 1)) = 0))) := by
  unfold rootB
  rw [List.range_succ, List.any_append]
  simp
theorem ev_two (x y : UInt8) : evL [1, x] y = 0 ↔ Gf.gm x y = 1 := by
  have e : evL [1, x] y = 1 ^^^ Gf.gm x y := by
    rw [evL_cons, evL_cons]
    show 1 ^^^ Gf.gm (x ^^^ Gf.gm (evL [] y) y) y = _
    rw [show evL [] y = 0 from rfl, Gf.zero_gm, UInt8.xor_zero]
  rw [e]
  constructor
  · intro h
    exact (Gf.xor_eq_zero _ _ h).symm
  · intro h
    rw [h]; decide
theorem rootB_all {v W C : List UInt8} {n L : Nat} {z : List Int} {H : List Nat} (h : Chg v W n z H) (hrf : RF (forL (synL W) (Gf.locL (xsL n z))) C L) (p : Nat) (hp : p < n) :
    rootB (Gf.al (n - 1 - p)) (ertL C n z) 255 = (decide ((p : Int) ∈ z) || decide (p ∈ H)) := by
  rw [Bool.eq_iff_iff]
  simp only [rootB, List.any_eq_true, List.mem_range, Bool.and_eq_true, decide_eq_true_eq, Bool.or_eq_true]
  constructor
  · rintro ⟨j, _, h1, h2⟩
    exact (h.root hrf p hp _ h1).1 h2
  · intro h1
    obtain ⟨y, hy⟩ : ∃ y, Gf.gm (Gf.al (n - 1 - p)) y = 1 := ⟨Gf.gd 1 (Gf.al (n - 1 - p)), by rw [Gf.gm_comm]; exact Gf.gd_gm _ _ (Gf.al_ne _)⟩
    have hy0 : y.toNat ≠ 0 := fun e => by
      have : y = 0 := UInt8.toNat_inj.1 e
      rw [this, Gf.gm_zero] at hy
      exact absurd hy (by decide)
    have hyl := UInt8.toNat_lt y
    have e : UInt8.ofNat (y.toNat - 1 + 1) = y := by rw [Nat.sub_add_cancel (by omega)]; simp
    exact ⟨y.toNat - 1, by omega, by rw [e]; exact hy, by rw [e]; exact (h.root hrf p hp y hy).2 h1⟩
end Go.Proofs.YtomkkkbdipcjgaaDoor
namespace Go.Proofs.YtomkkkbdipcjgaaDoor
open Go.RowKit
set_option linter.unusedVariables false
set_option linter.unusedSimpArgs false
theorem mem_zl (p : List UInt8) (y : UInt8) (k : Nat) (hk : k ≤ 256) : y ∈ zl p k ↔ y.toNat < k ∧ evL p y = 0 := by
  induction k with
  | zero => simp [zl]
  | succ k ih =>
    have ih := ih (by omega)
    have hn : (UInt8.ofNat k).toNat = k := by rw [UInt8.toNat_ofNat']; omega
    unfold zl
    by_cases h : evL p (UInt8.ofNat k) = 0
    · rw [if_pos h, List.mem_append, ih, List.mem_singleton]
      constructor
      · rintro (⟨h1, h2⟩ | rfl)
        · exact ⟨by omega, h2⟩
        · exact ⟨by omega, h⟩
      · rintro ⟨h1, h2⟩
        by_cases h3 : y.toNat = k
        · exact .inr (by rw [← h3, UInt8.ofNat_toNat])
        · exact .inl ⟨by omega, h2⟩
    · rw [if_neg h, ih]
      constructor
      · rintro ⟨h1, h2⟩
        exact ⟨by omega, h2⟩
      · rintro ⟨h1, h2⟩
        refine ⟨?_, h2⟩
        have : y.toNat ≠ k := fun h3 => h (by rw [← h3, UInt8.ofNat_toNat]; exact h2)
        omega
def ab : Array Value := Array.replicate 256 (.bool false)
theorem bools_none (n : Nat) : Array.replicate n (Value.bool false) = ((List.range n).map fun _ => Value.bool false).toArray := by
  apply Array.ext
  · simp
  · intro k h1 h2
    simp
def SfAt (P : List UInt8) (n : Nat) (w : World) (v p : Value) (wr : World) : Prop :=
  ∃ k : Nat, k ≤ n ∧ p = .int .i64 k ∧ wr.ownsRow w.heap.size 3 1 v (srI P n k).length (intsV (srI P n k)) ∧ Below w.heap.size w wr
theorem take_memU {k : Nat} {z : List UInt8} (hk : k < z.length) (q : Nat) (hq : q < 256) : (if q = (co z k).toNat then true else decide (UInt8.ofNat q ∈ z.take k)) = decide (UInt8.ofNat q ∈ z.take (k + 1)) := by
  have e : z.take (k + 1) = z.take k ++ [co z k] := by
    rw [List.take_add_one, List.getElem?_eq_getElem hk]
    simp [co, List.getD_eq_getElem?_getD, List.getElem?_eq_getElem hk]
  rw [e]
  by_cases h : q = (co z k).toNat
  · rw [if_pos h, h, UInt8.ofNat_toNat]
    simp
  · rw [if_neg h]
    have h2 : ¬ UInt8.ofNat q = co z k := fun e => h (by rw [← e, UInt8.toNat_ofNat']; omega)
    simp [h2]
theorem srI_no {P : List UInt8} {n k : Nat} (h : ¬ evL P (vi n k) = 0) : srI P n (k + 1) = srI P n k := by unfold srI; rw [srP_no h]
theorem srI_yes {P : List UInt8} {n k : Nat} (h : evL P (vi n k) = 0) : srI P n k ++ [(k : Int)] = srI P n (k + 1) := by unfold srI; rw [srP_yes h]; simp
end Go.Proofs.YtomkkkbdipcjgaaDoor
namespace Go.Proofs.YtomkkkbdipcjgaaDoor
open Go.RowKit
set_option linter.unusedVariables false
set_option linter.unusedSimpArgs false
theorem cell_later {W W' : World} {g : Nat} {v : Value} (hb : Below W.heap.size W W') (hc : W.cell? ⟨g, 0, none⟩ = some v) : W'.cell? ⟨g, 0, none⟩ = some v := by
  have hlt : g < W.heap.size := by
    unfold World.cell? at hc
    cases hh : W.heap[g]? with
    | none => simp [hh] at hc
    | some o => exact (Array.getElem?_eq_some_iff.1 hh).1
  rw [hb.cell (p := ⟨g, 0, none⟩) hlt]; exact hc
/-- a count within the parity -/
def bnd (k : Int) : Int := if k < 0 then 0 else if 32 < k then 32 else k
def spr (a b : Int) : Int := if 32 - bnd a - 2 * bnd b < 0 then 0 else 32 - bnd a - 2 * bnd b
end Go.Proofs.YtomkkkbdipcjgaaDoor
namespace Go.Proofs.YtomkkkbdipcjgaaDoor
open Go.RowKit
set_option linter.unusedVariables false
set_option linter.unusedSimpArgs false
def amS (G O : List UInt8) (n : Nat) : List (Nat × UInt8) := (srP G n n).map fun p => (p, amt G O n p)
@[simp] theorem amS_length (G O : List UInt8) (n : Nat) : (amS G O n).length = (srP G n n).length := by simp [amS]
theorem putW_step (W G O : List UInt8) (n k p : Nat) (hk : k < (srP G n n).length) (hp : (srP G n n).getD k 0 = p) :
    (putW W ((amS G O n).take k)).set p (co (putW W ((amS G O n).take k)) p ^^^ amt G O n p) = putW W ((amS G O n).take (k + 1)) := by
  have e : (amS G O n).take (k + 1) = (amS G O n).take k ++ [(p, amt G O n p)] := by
    rw [List.take_add_one]
    congr 1
    have h1 : (amS G O n)[k]? = some (p, amt G O n p) := by
      unfold amS
      rw [List.getElem?_map, List.getElem?_eq_getElem hk]
      rw [List.getD_eq_getElem?_getD, List.getElem?_eq_getElem hk] at hp
      simp at hp
      simp [hp]
    rw [h1]; rfl
  rw [e, putW_snoc]
end Go.Proofs.YtomkkkbdipcjgaaDoor
namespace Go.Proofs.YtomkkkbdipcjgaaDoor
open Go.RowKit
set_option linter.unusedVariables false
set_option linter.unusedSimpArgs false
def fxz : Value := .agg #[.slice none 0 0, .slice none 0 0, .int .i64 0]
def fx_v (A : Nat → Addr) (k : Nat) : Ending := .returned (.tuple #[fxz, .iface 127 (.pointer (some (A k)))])
def FxTo (W : List UInt8) (n : Nat) (z : List Int) (A : Nat → Addr) (w : World) (e : Ending) (w' : World) : Prop :=
  Below w.heap.size w w' ∧ (((∀ v H, ¬ Chg v W n z H) ∧ e = fx_v A 16) ∨ ∃ v H x1 x2, Chg v W n z H ∧ e = .returned (.tuple #[.agg #[x1, x2, .int .i64 (H.length : Int)], .nilIface]) ∧ RowV v x1 w' ∧ IntsV (dfL W v n) x2 w')
theorem tl_self (G : List UInt8) : tl (tr G) (tr G).length = (tr G).length := by rw [← tr_length, tr_tr]
theorem below_fx {w0 w : World} {g : Nat} (hb : Below w0.heap.size w0 w) (hg : w0.heap.size ≤ g) (x y v : Value) : Below w0.heap.size w0 (((w.setCell ⟨g, 0, none⟩ x).setCell ⟨g, 1, none⟩ y).setCell ⟨g, 2, none⟩ v) :=
  hb.trans ((((Below.refl _ _).setCell (p := ⟨g, 0, none⟩) hg _).setCell (p := ⟨g, 1, none⟩) hg _).setCell (p := ⟨g, 2, none⟩) hg _)
/-- a list of numbers beside it -/
theorem fx_ints {w : World} {g B : Nat} {x : Value} {z : List Int} {q : Array Value} (hv : w.ownsRow B 3 1 x z.length (intsV z)) (hB : g < B) : IntsV z x (w.setRow g q) := by
  obtain ⟨o, c, rfl, hr⟩ := owns_ints hv rfl
  refine ⟨o, c, rfl, hr.le, hr.cap, hr.nil, fun h0 => ?_⟩
  obtain ⟨p, off, e, hlt, hc⟩ := hr.cells h0
  have hp := (World.ownsRow.lt hv p (by rw [e]; rfl)).1
  have hne : p ≠ g := by omega
  exact ⟨p, off, e, by simpa [World.setRow] using hlt, fun i v hv => (World.cell?_of_block (setRow_other _ _ _ _ hne)).trans (hc i v hv)⟩
/-- what Only answers: a word with no other places wrong -/
def OnTo (W : List UInt8) (n : Nat) (z : List Int) (A : Nat → Addr) (w : World) (e : Ending) (w' : World) : Prop :=
  Below w.heap.size w w' ∧ (((∀ v H, Chg v W n z H → H.length ≠ 0) ∧ e = .returned (.tuple #[.slice none 0 0, .iface 127 (.pointer (some (A 16)))])) ∨ ∃ v x1, Chg v W n z [] ∧ e = .returned (.tuple #[x1, .nilIface]) ∧ RowV v x1 w')
theorem ne_nil_of {v W : List UInt8} {n : Nat} {z : List Int} {H : List Nat} (h : Chg v W n z H) (h0 : H.length = 0) : Chg v W n z [] := by
  have : H = [] := List.eq_nil_of_length_eq_zero h0
  rwa [this] at h
end Go.Proofs.YtomkkkbdipcjgaaDoor
namespace Go.Proofs.YtomkkkbdipcjgaaDoor
open Go.RowKit
set_option linter.unusedVariables false
set_option linter.unusedSimpArgs false
theorem eok_nil (n : Nat) : EOk n [] := ⟨fun k hk => absurd hk (by simp), fun i j hj hi => absurd hi (by simp), by simp⟩
theorem chg_ex (V : List UInt8) (hV : V.length = 35) (hc : IsCode V) (h2 : co V 1 = 2) : Chg V (V.set 1 9) 35 [] [1] :=
  ⟨hc, hV, by rw [List.length_set, hV], by omega, eok_nil 35, by simp, fun p hp => by
    simp at hp
    subst hp
    refine ⟨by omega, ?_, by simp⟩
    rw [co_set, if_pos ⟨rfl, by omega⟩, h2]
    decide, fun p hp hne _ => by
    rw [co_set] at hne
    by_cases h : 1 = p ∧ 1 < V.length
    · rw [← h.1]; simp
    · rw [if_neg h] at hne
      exact absurd rfl hne, by simp⟩
end Go.Proofs.YtomkkkbdipcjgaaDoor
