/- Helpers of LocatePlaces: rows of numbers beside rows of Booleans and bytes; roots sought by trying. -/
import Derived.Test.YtgifbpjmblemhaaGreatDoorPe
import Derived.Test.YtgifbpjmblemhaaGreatDoorLoc
import Derived.Test.YtgifbpjmblemhaaGreatDoorOp
namespace Go.Proofs.YtgifbpjmblemhaaGreatDoor
open Go.RowKit
set_option linter.unusedVariables false
set_option linter.unusedSimpArgs false
theorem info_bool4 : (Tryz.prog.info? 4).map (fun i => (i.zero, i.size, i.bytes)) = some (some (.bool false), 1, 1) := by kernel_rfl
set_option maxRecDepth 100000 in
theorem make_bools4 (N : Nat) (h : N ≤ 1000) (W : World) : (Instr.makeSlice 52 (.int .i64 (N : Int)) (.int .i64 (N : Int))).run Tryz.prog W = .ok (.slice (some ⟨W.heap.size, 0, none⟩) N N) (W.alloc (.cells (Array.replicate N (.bool false)) 4)) := by
  have hi := info_bool4
  cases hh : Tryz.prog.info? 4 with
  | none => rw [hh] at hi; cases hi
  | some i =>
    rw [hh] at hi
    simp only [Option.map_some, Option.some.injEq, Prod.mk.injEq] at hi
    have := run_make (P := Tryz.prog) W 52 4 i (.bool false) Tryz.underlying52 hh hi.1 .i64 .i64 (N : Int) (N : Int) (by omega) (by omega) (by rw [hi.2.2]; omega) (by omega)
    rw [this, hi.2.1]
    simp only [Int.toNat_natCast, Nat.mul_one]
    congr 3
    apply Array.ext
    · simp [madeCells]
    · intro k h1 h2
      simp [madeCells, Value.cells]
      rw [Nat.mod_one]; rfl
/-- the place that a number stands for -/
def plc4 (q : Int) (N : Nat) : Nat := (q % 18446744073709551616).toNat % N
theorem plc_lt4 (q : Int) (N : Nat) (h : 0 < N) : plc4 q N < N := Nat.mod_lt _ h
theorem wrap_u644 (q : Int) : IntKind.u64.wrap q = ((q % 18446744073709551616).toNat : Int) := by
  have h : 0 ≤ q % 18446744073709551616 := Int.emod_nonneg _ (by decide)
  rw [Int.toNat_of_nonneg h]
  simp [IntKind.wrap, IntKind.bits, IntKind.signed]
theorem BRow.cong {W : World} {g n : Nat} {f f' : Nat → Bool} (h : BRow W g n f) (he : ∀ i, i < n → f i = f' i) : BRow W g n f' := by
  unfold BRow at *
  rw [h]
  congr 2
  exact congrArg List.toArray (List.map_congr_left fun i hi => by rw [he i (List.mem_range.1 hi)])
theorem buf_same4 {W W' : World} {g cap : Nat} {ys : List UInt8} (h : Buf W g cap ys) (e : W'.heap[g]? = W.heap[g]?) : Buf W' g cap ys := by
  obtain ⟨hl, hx⟩ := h
  refine ⟨hl, ?_⟩
  rcases hx with h0 | ⟨g', cap', cur, hv, hb, hh, rest⟩
  · exact .inl h0
  · have hg : g = g' := by injection hv with h1 _ _; injection h1 with h1; injection h1
    subst hg
    exact .inr ⟨g, cap', cur, hv, hb, e.trans hh, rest⟩
theorem own_block {W : World} {n : Nat} {v : Value} {m : Nat} {xs : List Value} {k : Nat} (h : W.ownsRow n 3 1 v m xs) (hk : some k = v.ownBlock) : ∃ cur, W.heap[k]? = some (.cells cur 3 (0, 0)) := by
  rcases h.2 with ⟨rfl, _⟩ | ⟨g, cap, cur, rfl, _, hh, _⟩
  · cases hk
  · cases hk
    exact ⟨cur, hh⟩
theorem BRow.grown {W W' : World} {g n m b : Nat} {f : Nat → Bool} {v : Value} {xs : List Value} (h : BRow W g n f) (ho : W.ownsRow b 3 1 v m xs) (hg : W.grownBy W' v.ownBlock) : BRow W' g n f := by
  have hne : some g ≠ v.ownBlock := fun e => by
    obtain ⟨cur, hc⟩ := own_block ho e
    have h2 : W.heap[g]? = _ := h
    rw [hc] at h2
    injection h2 with h2
    injection h2 with _ h2 _
    exact absurd h2 (by decide)
  unfold BRow at *
  rw [World.grownBy.block hg g (Array.getElem?_eq_some_iff.1 h).1 hne]; exact h
theorem buf_grown {W W' : World} {g cap m b : Nat} {ys : List UInt8} {v : Value} {xs : List Value} (h : Buf W g cap ys) (ho : W.ownsRow b 3 1 v m xs) (hg : W.grownBy W' v.ownBlock) : Buf W' g cap ys := by
  obtain ⟨cu, hcu⟩ := h.cells
  have hne : some g ≠ v.ownBlock := fun e => by
    obtain ⟨cur, hc⟩ := own_block ho e
    rw [hc] at hcu
    injection hcu with h2
    injection h2 with _ h2 _
    exact absurd h2 (by decide)
  exact buf_same4 h (World.grownBy.block hg g h.lt hne)
theorem own_only {W W' : World} {n k : Nat} {v : Value} {m : Nat} {xs : List Value} {cs : Array Value} {T : TypeId} {fr : Nat × Nat} (h : W.ownsRow n 3 1 v m xs) (ho : Only k W W') (hk : W.heap[k]? = some (.cells cs T fr)) (hT : T ≠ 3) : W'.ownsRow n 3 1 v m xs := by
  obtain ⟨hl, hx⟩ := h
  refine ⟨hl, ?_⟩
  rcases hx with h0 | ⟨g', cap', cur, hv, hb, hh, rest⟩
  · exact .inl h0
  · refine .inr ⟨g', cap', cur, hv, hb, ?_, rest⟩
    have hne : some g' ≠ some k := fun e => by
      cases e
      rw [hk] at hh
      injection hh with h2
      injection h2 with _ h2 _
      exact hT h2
    rw [World.grownBy.block ho g' (Array.getElem?_eq_some_iff.1 hh).1 hne]; exact hh
theorem own_laterI {W W' : World} {n : Nat} {v : Value} {xs : List Value} {m : Nat} (h : W.ownsRow n 3 1 v m xs) (hb : Below W.heap.size W W') : W'.ownsRow n 3 1 v m xs := by
  obtain ⟨hl, hx⟩ := h
  refine ⟨hl, ?_⟩
  rcases hx with hx | ⟨g', cap', cur, h, h0, hh, h4⟩
  · exact .inl hx
  · exact .inr ⟨g', cap', cur, h, h0, by rw [hb.block g' (Array.getElem?_eq_some_iff.1 hh).1]; exact hh, h4⟩
theorem heap_grown {W W' : World} {k m b : Nat} {v : Value} {xs : List Value} {ca : Array Value} {T : TypeId} {fr : Nat × Nat} (h : W.heap[k]? = some (.cells ca T fr)) (hT : T ≠ 3) (ho : W.ownsRow b 3 1 v m xs) (hg : W.grownBy W' v.ownBlock) : W'.heap[k]? = some (.cells ca T fr) := by
  have hne : some k ≠ v.ownBlock := fun e => by
    obtain ⟨cur, hc⟩ := own_block ho e
    rw [h] at hc
    injection hc with h2
    injection h2 with _ h2 _
    exact hT h2
  rw [World.grownBy.block hg k (Array.getElem?_eq_some_iff.1 h).1 hne]; exact h
/-- is there one among the first values? -/
def rootB (x : UInt8) (M : List UInt8) (k : Nat) : Bool := (List.range k).any fun j => decide (Gf.gm x (UInt8.ofNat (j + 1)) = 1) && decide (evL M (UInt8.ofNat (j + 1)) = 0)
theorem rootB_succ (x : UInt8) (M : List UInt8) (k : Nat) : rootB x M (k + 1) = (rootB x M k || (decide (Gf.gm x (UInt8.ofNat (k + 1)) = 1) && decide (evL M (UInt8.ofNat (k + 1)) = 0))) := by
  unfold rootB
  rw [List.range_succ, List.any_append]
  simp
theorem ev_two (x y : UInt8) : evL [1, x] y = 0 ↔ Gf.gm x y = 1 := by
  have e : evL [1, x] y = 1 ^^^ Gf.gm x y := by
    rw [evL_cons, evL_cons]
    show 1 ^^^ Gf.gm (x ^^^ Gf.gm (evL [] y) y) y = _
    rw [show evL [] y = 0 from rfl, Gf.zero_gm, UInt8.xor_zero]
  rw [e]
  constructor
  · intro h
    exact (Gf.xor_eq_zero _ _ h).symm
  · intro h
    rw [h]; decide
theorem rootB_all {v W C : List UInt8} {n L : Nat} {z : List Int} {H : List Nat} (h : Chg v W n z H) (hrf : RF (forL (synL W) (Gf.locL (xsL n z))) C L) (p : Nat) (hp : p < n) :
    rootB (Gf.al (n - 1 - p)) (ertL C n z) 255 = (decide ((p : Int) ∈ z) || decide (p ∈ H)) := by
  rw [Bool.eq_iff_iff]
  simp only [rootB, List.any_eq_true, List.mem_range, Bool.and_eq_true, decide_eq_true_eq, Bool.or_eq_true]
  constructor
  · rintro ⟨j, _, h1, h2⟩
    exact (h.root hrf p hp _ h1).1 h2
  · intro h1
    obtain ⟨y, hy⟩ : ∃ y, Gf.gm (Gf.al (n - 1 - p)) y = 1 := ⟨Gf.gd 1 (Gf.al (n - 1 - p)), by rw [Gf.gm_comm]; exact Gf.gd_gm _ _ (Gf.al_ne _)⟩
    have hy0 : y.toNat ≠ 0 := fun e => by
      have : y = 0 := UInt8.toNat_inj.1 e
      rw [this, Gf.gm_zero] at hy
      exact absurd hy (by decide)
    have hyl := UInt8.toNat_lt y
    have e : UInt8.ofNat (y.toNat - 1 + 1) = y := by rw [Nat.sub_add_cancel (by omega)]; simp
    exact ⟨y.toNat - 1, by omega, by rw [e]; exact hy, by rw [e]; exact (h.root hrf p hp y hy).2 h1⟩
end Go.Proofs.YtgifbpjmblemhaaGreatDoor
