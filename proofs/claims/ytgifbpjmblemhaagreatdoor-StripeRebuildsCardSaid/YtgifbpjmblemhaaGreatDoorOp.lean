/- Arguments that are an array of bytes, or a slice of pairs (a number and a byte). How many elements a slice of pairs has, told by its datum. -/
import Derived.Test.YtgifbpjmblemhaaGreatDoorSl
import Derived.Deep.SlicePairs
import Derived.OpenShut
import Derived.SizedLaws
namespace Go.Proofs.YtgifbpjmblemhaaGreatDoor
open Go.ChangeShapes Go.WideShapes Go.ChangeAt Go.RowKit
set_option linter.unusedVariables false
def u8Of (v : Option Value) : UInt8 := match v with
  | some (.int _ k) => UInt8.ofNat k.toNat
  | _ => 0
def intOf2 (v : Value) : Int := match v with
  | .int _ k => k
  | _ => 0
theorem u8Of_int {k : Int} (w : (Lit.int .u8 k).wf = true) : ((u8Of (some (.int .u8 k))).toNat : Int) = k := by
  have := u8_wf w
  simp only [u8Of, UInt8.toNat_ofNat']
  omega
/-- an argument that is an array of bytes -/
theorem open_u8arr {H : Type} {enc : TypeId × Value → H} {P : Program} {W : World} {r : Reach} {base b0 : Nat} {sp : Nat → Bool} {hd : Bool} {t e : TypeId} {n : Nat} {v : Value} {d : DataW H} {p : List MemPlace}
    (ht : P.underlying t = some (.array n e)) (he : P.underlying e = some (.int .u8)) (hc : P.cellsOf e = 1) (hn : P.cellsOf t = n) (hval : Value.okWide P W r base t v)
    (h : DataW.Trod enc P W b0 sp hd t v d p) : ∃ s : List UInt8, s.length = n ∧ v = .agg (bytesV s).toArray := by
  obtain ⟨cs, rfl, hsz⟩ : ∃ cs, v = .agg cs ∧ cs.size = P.cellsOf t := by
    simp only [Value.okWide, ht] at hval
    obtain ⟨cs, h1, h2, _⟩ := hval
    exact ⟨cs, h1, h2⟩
  obtain ⟨fuel, hf⟩ := h
  obtain ⟨xs, m, rfl, hx, hl, hxl, hi⟩ := DataW.trod_array ht hf
  have hcell : ∀ i, i < n → cs[i]? = some (.int .u8 ((u8Of cs[i]?).toNat : Int)) := fun i hin => by
    have h1 := hi i hin
    rw [hc, Nat.mul_one, List.getElem?_eq_getElem (by omega)] at h1
    obtain ⟨k, hk, _, hw⟩ := DataW.trod_int he h1
    have h2 : (Value.agg cs).cells[i]? = some (.int .u8 k) := by
      have h3 := congrArg (fun l => l[0]?) hk
      simpa using h3
    have h4 : cs[i]? = some (.int .u8 k) := by simpa [Value.cells] using h2
    rw [h4, u8Of_int hw]
  refine ⟨(List.range n).map fun i => u8Of cs[i]?, by simp, ?_⟩
  congr 1
  apply Array.ext
  · simp [hsz, hn]
  · intro i h1 h2
    have h3 := hcell i (by omega)
    rw [Array.getElem?_eq_getElem h1] at h3
    simp only [bytesV, List.map_map, List.getElem_toArray, List.getElem_map, List.getElem_range, Function.comp]
    rw [Array.getElem?_eq_getElem h1]
    exact Option.some.inj h3
/-- the slice (address o, capacity c) has the elements zs, two cells each -/
structure PairsIs (W : World) (o : Option Addr) (zs : List (Int × UInt8)) (c : Nat) : Prop where
  le : zs.length ≤ c
  cap : c ≤ maxLen
  nil : o = none → c = 0
  wf : ∀ i, -9223372036854775808 ≤ (zs.getD i (0, 0)).1 ∧ (zs.getD i (0, 0)).1 ≤ 9223372036854775807
  cells : 0 < zs.length → ∃ b off, o = some ⟨b, off, none⟩ ∧ b < W.heap.size ∧ ∀ i, i < zs.length → W.cell? ⟨b, off + i * 2, none⟩ = some (.int .i64 (zs.getD i (0, 0)).1) ∧ W.cell? ⟨b, off + (i * 2 + 1), none⟩ = some (.int .u8 ((zs.getD i (0, 0)).2.toNat : Int))
theorem PairsIs.later {W W' : World} {o : Option Addr} {zs : List (Int × UInt8)} {c : Nat} (h : PairsIs W o zs c) (hb : Below W.heap.size W W') : PairsIs W' o zs c :=
  ⟨h.le, h.cap, h.nil, h.wf, fun h0 => by
    obtain ⟨b, off, e, hlt, hc⟩ := h.cells h0
    exact ⟨b, off, e, Nat.lt_of_lt_of_le hlt hb.size, fun i hi => ⟨by rw [hb.cell (p := ⟨b, off + i * 2, none⟩) hlt]; exact (hc i hi).1, by rw [hb.cell (p := ⟨b, off + (i * 2 + 1), none⟩) hlt]; exact (hc i hi).2⟩⟩⟩
theorem open_pairs {H : Type} {enc : TypeId × Value → H} {P : Program} {W : World} {r : Reach} {base : Nat} {t e : TypeId} {f0 f1 : Field} {v : Value} {d : DataW H} {p : List MemPlace}
    (ht : P.underlying t = some (.slice e)) (he : P.underlying e = some (.struct #[f0, f1])) (ce : P.cellsOf e = 2) (o0 : f0.offset = 0) (o1 : f1.offset = 1) (c0 : P.cellsOf f0.type = 1) (c1 : P.cellsOf f1.type = 1)
    (u0 : P.underlying f0.type = some (.int .i64)) (u1 : P.underlying f1.type = some (.int .u8)) (hval : Value.okWide P W r base t v)
    (h : DataW.Trod enc P W 0 (fun _ => true) true t v d p) (hlt : ∀ x ∈ p, x.block < W.heap.size) :
    ∃ (o : Option Addr) (c : Nat) (zs : List (Int × UInt8)), v = .slice o zs.length c ∧ PairsIs W o zs c := by
  obtain ⟨a0, len, cap, rfl⟩ := okWide_slice ht hval
  obtain ⟨fuel, hf⟩ := h
  rcases Go.Deep.open_slice_pairs ht he ce o0 o1 c0 c1 hf with ⟨hcs, hx⟩ | ⟨a, len', cap', m, n, V0, V1, D0, D1, P0, P1, hcs, _, hl, hm, hmm, hx, hi⟩
  · simp [Value.cells] at hcs
    obtain ⟨rfl, rfl, rfl⟩ := hcs
    exact ⟨none, 0, [], rfl, ⟨Nat.le_refl _, Nat.zero_le _, fun _ => rfl, fun i => by simp, fun h => absurd h (by simp)⟩⟩
  · simp [Value.cells] at hcs
    obtain ⟨rfl, rfl, rfl⟩ := hcs
    simp only [if_true] at hmm
    subst hmm
    simp only [Prod.mk.injEq] at hx
    obtain ⟨rfl, rfl⟩ := hx
    have hv0 : ∀ i, i < m → V0 i = .int .i64 (intOf2 (V0 i)) ∧ -9223372036854775808 ≤ intOf2 (V0 i) ∧ intOf2 (V0 i) ≤ 9223372036854775807 := fun i hic => by
      obtain ⟨k, hk, _, hw⟩ := DataW.trod_int u0 (hi i hic).2.2.1
      have e : V0 i = .int .i64 k := by simpa using hk
      rw [e]
      exact ⟨rfl, i64_wf hw⟩
    have hv1 : ∀ i, i < m → V1 i = .int .u8 ((u8Of (some (V1 i))).toNat : Int) := fun i hic => by
      obtain ⟨k, hk, _, hw⟩ := DataW.trod_int u1 (hi i hic).2.2.2
      have e : V1 i = .int .u8 k := by simpa using hk
      rw [e, u8Of_int hw]
    have hget : ∀ i, i < len → ((List.range len).map fun i => (intOf2 (V0 i), u8Of (some (V1 i)))).getD i (0, 0) = (intOf2 (V0 i), u8Of (some (V1 i))) := fun i hil => by
      simp [List.getD_eq_getElem?_getD, hil]
    refine ⟨some a, m, (List.range len).map fun i => (intOf2 (V0 i), u8Of (some (V1 i))), by simp, ⟨by simpa using hl, hm, (fun h => by cases h), fun i => ?_, fun h0 => ?_⟩⟩
    · by_cases hil : i < len
      · rw [hget i hil]
        exact (hv0 i (by omega)).2
      · simp [List.getD_eq_getElem?_getD, hil]
    · have h1 : 0 < len := by simpa using h0
      obtain ⟨b, off, spot⟩ := a
      have hspot : spot = none := by simpa [Addr.add] using World.cell?_spot (hi 0 (by omega)).1
      subst hspot
      refine ⟨b, off, rfl, hlt (.cell b off) (List.mem_append_left _ (MemPlace.mem_row.2 ⟨0, by omega, by simp⟩)), fun i hil => ?_⟩
      have hil : i < len := by simpa using hil
      have hc2 := hi i (by omega)
      rw [add_plain, add_plain] at hc2
      rw [hget i hil]
      exact ⟨by rw [hc2.1, (hv0 i (by omega)).1]; rfl, by rw [hc2.2.1]; exact congrArg some (hv1 i (by omega))⟩
end Go.Proofs.YtgifbpjmblemhaaGreatDoor
namespace Go.Proofs.YtgifbpjmblemhaaGreatDoor
open Go.ChangeShapes Go.WideShapes Go.ChangeAt Go.RowKit
set_option linter.unusedVariables false
theorem pairs_data {H : Type} {enc : TypeId × Value → H} {P : Program} {W : World} {t e : TypeId} {f0 f1 : Field} {o : Option Addr} {n c : Nat} {d : DataW H} {p : List MemPlace}
    (ht : P.underlying t = some (.slice e)) (he : P.underlying e = some (.struct #[f0, f1])) (ce : P.cellsOf e = 2) (o0 : f0.offset = 0) (o1 : f1.offset = 1) (c0 : P.cellsOf f0.type = 1) (c1 : P.cellsOf f1.type = 1)
    (h : DataW.Trod enc P W 0 (fun _ => true) true t (.slice o n c) d p) : n = 0 ∨ ∃ ys rest, d = .slice ys rest ∧ ys.length = n := by
  obtain ⟨fuel, hf⟩ := h
  rcases Go.Deep.open_slice_pairs ht he ce o0 o1 c0 c1 hf with ⟨hcs, hx⟩ | ⟨a, len', cap', m, k, V0, V1, D0, D1, P0, P1, hcs, _, hl, hm, hmm, hx, hi⟩
  · simp [Value.cells] at hcs
    exact .inl hcs.2.1
  · simp [Value.cells] at hcs
    obtain ⟨rfl, rfl, rfl⟩ := hcs
    simp only [Prod.mk.injEq] at hx
    obtain ⟨rfl, rfl⟩ := hx
    exact .inr ⟨_, _, rfl, by simp⟩
end Go.Proofs.YtgifbpjmblemhaaGreatDoor
