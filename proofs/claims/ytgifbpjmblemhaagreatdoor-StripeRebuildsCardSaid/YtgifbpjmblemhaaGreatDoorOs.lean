/- Arguments that are a struct of a number and two slices of bytes, or an array of numbers. -/
import Derived.Test.YtgifbpjmblemhaaGreatDoorOp
import Derived.Deep.Strs
namespace Go.Proofs.YtgifbpjmblemhaaGreatDoor
open Go.ChangeShapes Go.WideShapes Go.ChangeAt Go.RowKit
set_option linter.unusedVariables false
theorem open_bytes5 {H : Type} {enc : TypeId × Value → H} {P : Program} {W : World} {fuel : Nat} {t e : TypeId} {c0 : Value} {y : DataW H × List MemPlace}
    (ht : P.underlying t = some (.slice e)) (he : P.underlying e = some (.int .u8)) (hc : P.cellsOf e = 1) 
    (h : DataW.trod enc P W 0 (fun _ => true) true fuel t [c0] = some y) (hlt : ∀ x ∈ y.2, x.block < W.heap.size) :
    ∃ (o : Option Addr) (c : Nat) (z : List UInt8), c0 = .slice o z.length c ∧ RowIs W o (bytesV z) c := by
  rcases open_ints ht he hc h with ⟨hcs, hx⟩ | ⟨a, len, cap, zs, hcs, _, hl, hm, hz, hx, hcell, hwz⟩
  · simp at hcs
    subst hcs
    exact ⟨none, 0, [], rfl, ⟨Nat.le_refl _, Nat.zero_le _, fun _ => rfl, fun h => absurd h (by simp)⟩⟩
  · simp at hcs
    subst hcs
    subst hx
    simp only [if_true] at hz
    have hlen : (zs.take len).length = len := by simp; omega
    have e : ∀ n ∈ zs, ((UInt8.ofNat n.toNat).toNat : Int) = n := fun n hn => by
      have := u8_wf (hwz n hn)
      simp only [UInt8.toNat_ofNat']
      omega
    refine ⟨some a, cap, (zs.take len).map fun n => UInt8.ofNat n.toNat, by rw [List.length_map, hlen], ⟨by simp; omega, hm, (fun h => by cases h), fun h0 => ?_⟩⟩
    have h1 : 0 < len := by simp at h0; omega
    obtain ⟨b, off, spot⟩ := a
    have hspot : spot = none := by simpa [Addr.add] using World.cell?_spot (hcell 0 (by omega))
    subst hspot
    refine ⟨b, off, rfl, hlt (.cell b off) (MemPlace.mem_row.2 ⟨0, by omega, by simp⟩), fun i v hv => ?_⟩
    have hi : i < len := by
      have := (List.getElem?_eq_some_iff.1 hv).1
      simp at this; omega
    have hc2 := hcell i (by omega)
    rw [add_plain] at hc2
    rw [hc2, ← hv]
    have hi2 : i < zs.length := by omega
    unfold bytesV
    rw [List.getElem?_map, List.getElem?_map, List.getElem?_take_of_lt hi, List.getElem?_eq_getElem hi2]
    simp only [Option.map_some]
    rw [e _ (List.getElem_mem hi2)]
    simp [List.getElem?_eq_getElem hi2]
/-- an argument that is a struct of a number and two slices of bytes -/
theorem open_found {H : Type} {enc : TypeId × Value → H} {P : Program} {W : World} {r : Reach} {base : Nat} {t e : TypeId} {f0 f1 f2 : Field} {v : Value} {d : DataW H} {p : List MemPlace}
    (ht : P.underlying t = some (.struct #[f0, f1, f2])) (hct : P.cellsOf t = 3) (o0 : f0.offset = 0) (o1 : f1.offset = 1) (o2 : f2.offset = 2) (c0 : P.cellsOf f0.type = 1) (c1 : P.cellsOf f1.type = 1) (c2 : P.cellsOf f2.type = 1)
    (u0 : P.underlying f0.type = some (.int .i64)) (u1 : P.underlying f1.type = some (.slice e)) (u2 : P.underlying f2.type = some (.slice e)) (he : P.underlying e = some (.int .u8)) (ce : P.cellsOf e = 1) (hval : Value.okWide P W r base t v)
    (h : DataW.Trod enc P W 0 (fun _ => true) true t v d p) (hlt : ∀ x ∈ p, x.block < W.heap.size) :
    ∃ (x0 : Int) (oG oO : Option Addr) (cG cO : Nat) (G O : List UInt8), v = .agg #[.int .i64 x0, .slice oG G.length cG, .slice oO O.length cO] ∧ RowIs W oG (bytesV G) cG ∧ RowIs W oO (bytesV O) cO := by
  obtain ⟨cs, rfl, hsz⟩ : ∃ cs, v = .agg cs ∧ cs.size = P.cellsOf t := by
    simp only [Value.okWide, ht] at hval
    obtain ⟨cs, h1, h2, _⟩ := hval
    exact ⟨cs, h1, h2⟩
  obtain ⟨fuel, hf⟩ := h
  obtain ⟨y0, y1, y2, n, hx, hl, g0, g1, g2⟩ := Go.Deep.trod_struct3 ht hf
  rw [hct] at hsz
  obtain ⟨l⟩ := cs
  match l, hsz with
  | [a, b, c], _ =>
    simp only [Value.cells, o0, o1, o2, c0, c1, c2, List.drop_zero, List.drop_succ_cons, List.take_succ_cons, List.take_zero] at g0 g1 g2
    simp only [Prod.mk.injEq] at hx
    obtain ⟨rfl, rfl⟩ := hx
    obtain ⟨k, hk, _, hw⟩ := DataW.trod_int u0 g0
    obtain ⟨oG, cG, G, hG, rG⟩ := open_bytes5 u1 he ce g1 (fun x hx => hlt x (by simp [hx]))
    obtain ⟨oO, cO, O, hO, rO⟩ := open_bytes5 u2 he ce g2 (fun x hx => hlt x (by simp [hx]))
    refine ⟨k, oG, oO, cG, cO, G, O, ?_, rG, rO⟩
    have ha : a = .int .i64 k := by simpa using hk
    rw [ha, hG, hO]
/-- an argument that is an array of numbers -/
theorem open_iarr2 {H : Type} {enc : TypeId × Value → H} {P : Program} {W : World} {r : Reach} {base b0 : Nat} {sp : Nat → Bool} {hd : Bool} {t e : TypeId} {v : Value} {d : DataW H} {p : List MemPlace}
    (ht : P.underlying t = some (.array 2 e)) (he : P.underlying e = some (.int .i64)) (hc : P.cellsOf e = 1) (hn : P.cellsOf t = 2) (hval : Value.okWide P W r base t v)
    (h : DataW.Trod enc P W b0 sp hd t v d p) : ∃ a b : Int, v = .agg #[.int .i64 a, .int .i64 b] ∧ (Lit.int .i64 a).wf = true ∧ (Lit.int .i64 b).wf = true := by
  obtain ⟨cs, rfl, hsz⟩ : ∃ cs, v = .agg cs ∧ cs.size = P.cellsOf t := by
    simp only [Value.okWide, ht] at hval
    obtain ⟨cs, h1, h2, _⟩ := hval
    exact ⟨cs, h1, h2⟩
  obtain ⟨fuel, hf⟩ := h
  obtain ⟨xs, m, rfl, hx, hl, hxl, hi⟩ := DataW.trod_array ht hf
  rw [hn] at hsz
  obtain ⟨l⟩ := cs
  match l, hsz with
  | [a, b], _ =>
    have h0 := hi 0 (by omega)
    have h1 := hi 1 (by omega)
    simp only [Value.cells, hc, Nat.mul_one, List.drop_zero, List.drop_succ_cons, List.take_succ_cons, List.take_zero] at h0 h1
    rw [List.getElem?_eq_getElem (by omega)] at h0 h1
    obtain ⟨k0, hk0, _, hw0⟩ := DataW.trod_int he h0
    obtain ⟨k1, hk1, _, hw1⟩ := DataW.trod_int he h1
    have ha : a = .int .i64 k0 := by simpa using hk0
    have hb : b = .int .i64 k1 := by simpa using hk1
    exact ⟨k0, k1, by rw [ha, hb], hw0, hw1⟩
end Go.Proofs.YtgifbpjmblemhaaGreatDoor
