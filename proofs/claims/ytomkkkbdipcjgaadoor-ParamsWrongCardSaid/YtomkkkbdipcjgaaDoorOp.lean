/- Arguments that are an array of bytes, or a slice of pairs (a number and a byte). How many elements a slice of pairs has, told by its datum. Arguments that are a struct of a number and two slices of bytes, or an array of numbers. -/
import Derived.Test.YtomkkkbdipcjgaaDoorSl
import Derived.Deep.SlicePairs
import Derived.OpenShut
import Derived.SizedLaws
import Derived.Deep.Strs
namespace Go.Proofs.YtomkkkbdipcjgaaDoor
open Go.ChangeShapes Go.WideShapes Go.ChangeAt Go.RowKit
set_option linter.unusedVariables false
def u8Of (v : Option Value) : UInt8 := match v with
  | some (.int _ k) => UInt8.ofNat k.toNat
  | _ => 0
def intOf2 (v : Value) : Int := match v with
  | .int _ k => k
  | _ => 0
theorem u8Of_int {k : Int} (w : (Lit.int .u8 k).wf = true) : ((u8Of (some (.int .u8 k))).toNat : Int) = k := by
  have := u8_wf w
  simp only [u8Of, UInt8.toNat_ofNat']
  omega
/-- an argument that is an array of bytes -/
theorem open_u8arr {H : Type} {enc : TypeId × Value → H} {P : Program} {W : World} {r : Reach} {base b0 : Nat} {sp : Nat → Bool} {hd : Bool} {t e : TypeId} {n : Nat} {v : Value} {d : DataW H} {p : List MemPlace}
    (ht : P.underlying t = some (.array n e)) (he : P.underlying e = some (.int .u8)) (hc : P.cellsOf e = 1) (hn : P.cellsOf t = n) (hval : Value.okWide P W r base t v)
    (h : DataW.Trod enc P W b0 sp hd t v d p) : ∃ s : List UInt8, s.length = n ∧ v = .agg (bytesV s).toArray := by
  obtain ⟨cs, rfl, hsz⟩ : ∃ cs, v = .agg cs ∧ cs.size = P.cellsOf t := by
    simp only [Value.okWide, ht] at hval
    obtain ⟨cs, h1, h2, _⟩ := hval
    exact ⟨cs, h1, h2⟩
  obtain ⟨fuel, hf⟩ := h
  obtain ⟨xs, m, rfl, hx, hl, hxl, hi⟩ := DataW.trod_array ht hf
  have hcell : ∀ i, i < n → cs[i]? = some (.int .u8 ((u8Of cs[i]?).toNat : Int)) := fun i hin => by
    have h1 := hi i hin
    rw [hc, Nat.mul_one, List.getElem?_eq_getElem (by omega)] at h1
    obtain ⟨k, hk, _, hw⟩ := DataW.trod_int he h1
    have h2 : (Value.agg cs).cells[i]? = some (.int .u8 k) := by
      have h3 := congrArg (fun l => l[0]?) hk
      simpa using h3
    have h4 : cs[i]? = some (.int .u8 k) := by simpa [Value.cells] using h2
    rw [h4, u8Of_int hw]
  refine ⟨(List.range n).map fun i => u8Of cs[i]?, by simp, ?_⟩
  congr 1
  apply Array.ext
  · simp [hsz, hn]
  · intro i h1 h2
    have h3 := hcell i (by omega)
    rw [Array.getElem?_eq_getElem h1] at h3
    simp only [bytesV, List.map_map, List.getElem_toArray, List.getElem_map, List.getElem_range, Function.comp]
    rw [Array.getElem?_eq_getElem h1]
    exact Option.some.inj h3
/-- the slice (address o, capacity c) has the elements zs, two cells each -/
structure PairsIs (W : World) (o : Option Addr) (zs : List (Int × UInt8)) (c : Nat) : Prop where
  le : zs.length ≤ c
  cap : c ≤ maxLen
  nil : o = none → c = 0
  wf : ∀ i, -9223372036854775808 ≤ (zs.getD i (0, 0)).1 ∧ (zs.getD i (0, 0)).1 ≤ 9223372036854775807
  cells : 0 < zs.length → ∃ b off, o = some ⟨b, off, none⟩ ∧ b < W.heap.size ∧ ∀ i, i < zs.length → W.cell? ⟨b, off + i * 2, none⟩ = some (.int .i64 (zs.getD i (0, 0)).1) ∧ W.cell? ⟨b, off + (i * 2 + 1), none⟩ = some (.int .u8 ((zs.getD i (0, 0)).2.toNat : Int))
theorem PairsIs.later {W W' : World} {o : Option Addr} {zs : List (Int × UInt8)} {c : Nat} (h : PairsIs W o zs c) (hb : Below W.heap.size W W') : PairsIs W' o zs c :=
  ⟨h.le, h.cap, h.nil, h.wf, fun h0 => by
    obtain ⟨b, off, e, hlt, hc⟩ := h.cells h0
    exact ⟨b, off, e, Nat.lt_of_lt_of_le hlt hb.size, fun i hi => ⟨by rw [hb.cell (p := ⟨b, off + i * 2, none⟩) hlt]; exact (hc i hi).1, by rw [hb.cell (p := ⟨b, off + (i * 2 + 1), none⟩) hlt]; exact (hc i hi).2⟩⟩⟩
theorem open_pairs {H : Type} {enc : TypeId × Value → H} {P : Program} {W : World} {r : Reach} {base : Nat} {t e : TypeId} {f0 f1 : Field} {v : Value} {d : DataW H} {p : List MemPlace}
    (ht : P.underlying t = some (.slice e)) (he : P.underlying e = some (.struct #[f0, f1])) (ce : P.cellsOf e = 2) (o0 : f0.offset = 0) (o1 : f1.offset = 1) (c0 : P.cellsOf f0.type = 1) (c1 : P.cellsOf f1.type = 1)
    (u0 : P.underlying f0.type = some (.int .i64)) (u1 : P.underlying f1.type = some (.int .u8)) (hval : Value.okWide P W r base t v)
    (h : DataW.Trod enc P W 0 (fun _ => true) true t v d p) (hlt : ∀ x ∈ p, x.block < W.heap.size) :
    ∃ (o : Option Addr) (c : Nat) (zs : List (Int × UInt8)), v = .slice o zs.length c ∧ PairsIs W o zs c := by
  obtain ⟨a0, len, cap, rfl⟩ := okWide_slice ht hval
  obtain ⟨fuel, hf⟩ := h
  rcases Go.Deep.open_slice_pairs ht he ce o0 o1 c0 c1 hf with ⟨hcs, hx⟩ | ⟨a, len', cap', m, n, V0, V1, D0, D1, P0, P1, hcs, _, hl, hm, hmm, hx, hi⟩
  · simp [Value.cells] at hcs
    obtain ⟨rfl, rfl, rfl⟩ := hcs
    exact ⟨none, 0, [], rfl, ⟨Nat.le_refl _, Nat.zero_le _, fun _ => rfl, fun i => by simp, fun h => absurd h (by simp)⟩⟩
  · simp [Value.cells] at hcs
    obtain ⟨rfl, rfl, rfl⟩ := hcs
    simp only [if_true] at hmm
    subst hmm
    simp only [Prod.mk.injEq] at hx
    obtain ⟨rfl, rfl⟩ := hx
    have hv0 : ∀ i, i < m → V0 i = .int .i64 (intOf2 (V0 i)) ∧ -9223372036854775808 ≤ intOf2 (V0 i) ∧ intOf2 (V0 i) ≤ 9223372036854775807 := fun i hic => by
      obtain ⟨k, hk, _, hw⟩ := DataW.trod_int u0 (hi i hic).2.2.1
      have e : V0 i = .int .i64 k := by simpa using hk
      rw [e]
      exact ⟨rfl, i64_wf hw⟩
    have hv1 : ∀ i, i < m → V1 i = .int .u8 ((u8Of (some (V1 i))).toNat : Int) := fun i hic => by
      obtain ⟨k, hk, _, hw⟩ := DataW.trod_int u1 (hi i hic).2.2.2
      have e : V1 i = .int .u8 k := by simpa using hk
      rw [e, u8Of_int hw]
    have hget : ∀ i, i < len → ((List.range len).map fun i => (intOf2 (V0 i), u8Of (some (V1 i)))).getD i (0, 0) = (intOf2 (V0 i), u8Of (some (V1 i))) := fun i hil => by
      simp [List.getD_eq_getElem?_getD, hil]
    refine ⟨some a, m, (List.range len).map fun i => (intOf2 (V0 i), u8Of (some (V1 i))), by simp, ⟨by simpa using hl, hm, (fun h => by cases h), fun i => ?_, fun h0 => ?_⟩⟩
    · by_cases hil : i < len
      · rw [hget i hil]
        exact (hv0 i (by omega)).2
      · simp [List.getD_eq_getElem?_getD, hil]
    · have h1 : 0 < len := by simpa using h0
      obtain ⟨b, off, spot⟩ := a
      have hspot : spot = none := by simpa [Addr.add] using World.cell?_spot (hi 0 (by omega)).1
      subst hspot
      refine ⟨b, off, rfl, hlt (.cell b off) (List.mem_append_left _ (MemPlace.mem_row.2 ⟨0, by omega, by simp⟩)), fun i hil => ?_⟩
      have hil : i < len := by simpa using hil
      have hc2 := hi i (by omega)
      rw [add_plain, add_plain] at hc2
      rw [hget i hil]
      exact ⟨by rw [hc2.1, (hv0 i (by omega)).1]; rfl, by rw [hc2.2.1]; exact congrArg some (hv1 i (by omega))⟩
end Go.Proofs.YtomkkkbdipcjgaaDoor
namespace Go.Proofs.YtomkkkbdipcjgaaDoor
open Go.ChangeShapes Go.WideShapes Go.ChangeAt Go.RowKit
set_option linter.unusedVariables false
theorem pairs_data {H : Type} {enc : TypeId × Value → H} {P : Program} {W : World} {t e : TypeId} {f0 f1 : Field} {o : Option Addr} {n c : Nat} {d : DataW H} {p : List MemPlace}
    (ht : P.underlying t = some (.slice e)) (he : P.underlying e = some (.struct #[f0, f1])) (ce : P.cellsOf e = 2) (o0 : f0.offset = 0) (o1 : f1.offset = 1) (c0 : P.cellsOf f0.type = 1) (c1 : P.cellsOf f1.type = 1)
    (h : DataW.Trod enc P W 0 (fun _ => true) true t (.slice o n c) d p) : n = 0 ∨ ∃ ys rest, d = .slice ys rest ∧ ys.length = n := by
  obtain ⟨fuel, hf⟩ := h
  rcases Go.Deep.open_slice_pairs ht he ce o0 o1 c0 c1 hf with ⟨hcs, hx⟩ | ⟨a, len', cap', m, k, V0, V1, D0, D1, P0, P1, hcs, _, hl, hm, hmm, hx, hi⟩
  · simp [Value.cells] at hcs
    exact .inl hcs.2.1
  · simp [Value.cells] at hcs
    obtain ⟨rfl, rfl, rfl⟩ := hcs
    simp only [Prod.mk.injEq] at hx
    obtain ⟨rfl, rfl⟩ := hx
    exact .inr ⟨_, _, rfl, by simp⟩
end Go.Proofs.YtomkkkbdipcjgaaDoor
namespace Go.Proofs.YtomkkkbdipcjgaaDoor
open Go.ChangeShapes Go.WideShapes Go.ChangeAt Go.RowKit
set_option linter.unusedVariables false
theorem open_bytes5 {H : Type} {enc : TypeId × Value → H} {P : Program} {W : World} {fuel : Nat} {t e : TypeId} {c0 : Value} {y : DataW H × List MemPlace}
    (ht : P.underlying t = some (.slice e)) (he : P.underlying e = some (.int .u8)) (hc : P.cellsOf e = 1) 
    (h : DataW.trod enc P W 0 (fun _ => true) true fuel t [c0] = some y) (hlt : ∀ x ∈ y.2, x.block < W.heap.size) :
    ∃ (o : Option Addr) (c : Nat) (z : List UInt8), c0 = .slice o z.length c ∧ RowIs W o (bytesV z) c := by
  rcases open_ints ht he hc h with ⟨hcs, hx⟩ | ⟨a, len, cap, zs, hcs, _, hl, hm, hz, hx, hcell, hwz⟩
  · simp at hcs
    subst hcs
    exact ⟨none, 0, [], rfl, ⟨Nat.le_refl _, Nat.zero_le _, fun _ => rfl, fun h => absurd h (by simp)⟩⟩
  · simp at hcs
    subst hcs
    subst hx
    simp only [if_true] at hz
    have hlen : (zs.take len).length = len := by simp; omega
    have e : ∀ n ∈ zs, ((UInt8.ofNat n.toNat).toNat : Int) = n := fun n hn => by
      have := u8_wf (hwz n hn)
      simp only [UInt8.toNat_ofNat']
      omega
    refine ⟨some a, cap, (zs.take len).map fun n => UInt8.ofNat n.toNat, by rw [List.length_map, hlen], ⟨by simp; omega, hm, (fun h => by cases h), fun h0 => ?_⟩⟩
    have h1 : 0 < len := by simp at h0; omega
    obtain ⟨b, off, spot⟩ := a
    have hspot : spot = none := by simpa [Addr.add] using World.cell?_spot (hcell 0 (by omega))
    subst hspot
    refine ⟨b, off, rfl, hlt (.cell b off) (MemPlace.mem_row.2 ⟨0, by omega, by simp⟩), fun i v hv => ?_⟩
    have hi : i < len := by
      have := (List.getElem?_eq_some_iff.1 hv).1
      simp at this; omega
    have hc2 := hcell i (by omega)
    rw [add_plain] at hc2
    rw [hc2, ← hv]
    have hi2 : i < zs.length := by omega
    unfold bytesV
    rw [List.getElem?_map, List.getElem?_map, List.getElem?_take_of_lt hi, List.getElem?_eq_getElem hi2]
    simp only [Option.map_some]
    rw [e _ (List.getElem_mem hi2)]
    simp [List.getElem?_eq_getElem hi2]
/-- an argument that is a struct of a number and two slices of bytes -/
theorem open_found {H : Type} {enc : TypeId × Value → H} {P : Program} {W : World} {r : Reach} {base : Nat} {t e : TypeId} {f0 f1 f2 : Field} {v : Value} {d : DataW H} {p : List MemPlace}
    (ht : P.underlying t = some (.struct #[f0, f1, f2])) (hct : P.cellsOf t = 3) (o0 : f0.offset = 0) (o1 : f1.offset = 1) (o2 : f2.offset = 2) (c0 : P.cellsOf f0.type = 1) (c1 : P.cellsOf f1.type = 1) (c2 : P.cellsOf f2.type = 1)
    (u0 : P.underlying f0.type = some (.int .i64)) (u1 : P.underlying f1.type = some (.slice e)) (u2 : P.underlying f2.type = some (.slice e)) (he : P.underlying e = some (.int .u8)) (ce : P.cellsOf e = 1) (hval : Value.okWide P W r base t v)
    (h : DataW.Trod enc P W 0 (fun _ => true) true t v d p) (hlt : ∀ x ∈ p, x.block < W.heap.size) :
    ∃ (x0 : Int) (oG oO : Option Addr) (cG cO : Nat) (G O : List UInt8), v = .agg #[.int .i64 x0, .slice oG G.length cG, .slice oO O.length cO] ∧ RowIs W oG (bytesV G) cG ∧ RowIs W oO (bytesV O) cO := by
  obtain ⟨cs, rfl, hsz⟩ : ∃ cs, v = .agg cs ∧ cs.size = P.cellsOf t := by
    simp only [Value.okWide, ht] at hval
    obtain ⟨cs, h1, h2, _⟩ := hval
    exact ⟨cs, h1, h2⟩
  obtain ⟨fuel, hf⟩ := h
  obtain ⟨y0, y1, y2, n, hx, hl, g0, g1, g2⟩ := Go.Deep.trod_struct3 ht hf
  rw [hct] at hsz
  obtain ⟨l⟩ := cs
  match l, hsz with
  | [a, b, c], _ =>
    simp only [Value.cells, o0, o1, o2, c0, c1, c2, List.drop_zero, List.drop_succ_cons, List.take_succ_cons, List.take_zero] at g0 g1 g2
    simp only [Prod.mk.injEq] at hx
    obtain ⟨rfl, rfl⟩ := hx
    obtain ⟨k, hk, _, hw⟩ := DataW.trod_int u0 g0
    obtain ⟨oG, cG, G, hG, rG⟩ := open_bytes5 u1 he ce g1 (fun x hx => hlt x (by simp [hx]))
    obtain ⟨oO, cO, O, hO, rO⟩ := open_bytes5 u2 he ce g2 (fun x hx => hlt x (by simp [hx]))
    refine ⟨k, oG, oO, cG, cO, G, O, ?_, rG, rO⟩
    have ha : a = .int .i64 k := by simpa using hk
    rw [ha, hG, hO]
/-- an argument that is an array of numbers -/
theorem open_iarr2 {H : Type} {enc : TypeId × Value → H} {P : Program} {W : World} {r : Reach} {base b0 : Nat} {sp : Nat → Bool} {hd : Bool} {t e : TypeId} {v : Value} {d : DataW H} {p : List MemPlace}
    (ht : P.underlying t = some (.array 2 e)) (he : P.underlying e = some (.int .i64)) (hc : P.cellsOf e = 1) (hn : P.cellsOf t = 2) (hval : Value.okWide P W r base t v)
    (h : DataW.Trod enc P W b0 sp hd t v d p) : ∃ a b : Int, v = .agg #[.int .i64 a, .int .i64 b] ∧ (Lit.int .i64 a).wf = true ∧ (Lit.int .i64 b).wf = true := by
  obtain ⟨cs, rfl, hsz⟩ : ∃ cs, v = .agg cs ∧ cs.size = P.cellsOf t := by
    simp only [Value.okWide, ht] at hval
    obtain ⟨cs, h1, h2, _⟩ := hval
    exact ⟨cs, h1, h2⟩
  obtain ⟨fuel, hf⟩ := h
  obtain ⟨xs, m, rfl, hx, hl, hxl, hi⟩ := DataW.trod_array ht hf
  rw [hn] at hsz
  obtain ⟨l⟩ := cs
  match l, hsz with
  | [a, b], _ =>
    have h0 := hi 0 (by omega)
    have h1 := hi 1 (by omega)
    simp only [Value.cells, hc, Nat.mul_one, List.drop_zero, List.drop_succ_cons, List.take_succ_cons, List.take_zero] at h0 h1
    rw [List.getElem?_eq_getElem (by omega)] at h0 h1
    obtain ⟨k0, hk0, _, hw0⟩ := DataW.trod_int he h0
    obtain ⟨k1, hk1, _, hw1⟩ := DataW.trod_int he h1
    have ha : a = .int .i64 k0 := by simpa using hk0
    have hb : b = .int .i64 k1 := by simpa using hk1
    exact ⟨k0, k1, by rw [ha, hb], hw0, hw1⟩
end Go.Proofs.YtomkkkbdipcjgaaDoor
