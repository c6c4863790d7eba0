/- Arguments that are a slice of arrays of 32 bytes. -/
import Derived.Test.YtjcmihiajpgnjaaDoorOp
import Derived.Test.YtjcmihiajpgnjaaDoorTg
import Derived.Deep.Slices
namespace Go.Proofs.YtjcmihiajpgnjaaDoor
open Go.ChangeShapes Go.WideShapes Go.ChangeAt Go.RowKit
set_option linter.unusedVariables false
theorem open_digs {H : Type} {enc : TypeId × Value → H} {P : Program} {W : World} {r : Reach} {base : Nat} {t e e8 : TypeId} {v : Value} {d : DataW H} {p : List MemPlace}
    (ht : P.underlying t = some (.slice e)) (he : P.underlying e = some (.array 32 e8)) (ce : P.cellsOf e = 32) (u8 : P.underlying e8 = some (.int .u8)) (c8 : P.cellsOf e8 = 1) (hval : Value.okWide P W r base t v)
    (h : DataW.Trod enc P W 0 (fun _ => true) true t v d p) (hlt : ∀ x ∈ p, x.block < W.heap.size) :
    ∃ (o : Option Addr) (c : Nat) (bs : List (List UInt8)), v = .slice o bs.length c ∧ DgIs W o bs c := by
  obtain ⟨a0, len, cap, rfl⟩ := okWide_slice ht hval
  obtain ⟨fuel, hf⟩ := h
  rcases Go.Deep.open_slice ht hf with ⟨hcs, hx⟩ | ⟨a, len', cap', m, n, D, Pl, hcs, _, hl, hm, hmm, hx, hi⟩
  · simp [Value.cells] at hcs
    obtain ⟨rfl, rfl, rfl⟩ := hcs
    exact ⟨none, 0, [], rfl, DgIs.empty _ _ (Nat.zero_le _) (fun _ => rfl)⟩
  · simp [Value.cells] at hcs
    obtain ⟨rfl, rfl, rfl⟩ := hcs
    simp only [if_true] at hmm
    subst hmm
    simp only [Prod.mk.injEq] at hx
    obtain ⟨rfl, rfl⟩ := hx
    obtain ⟨b, off, spot⟩ := a
    have each : ∀ i, i < m → ∃ z : List UInt8, spot = none ∧ z.length = 32 ∧ ∀ j, j < 32 → W.cell? ⟨b, off + i * 32 + j, none⟩ = some (.int .u8 ((z.getD j 0).toNat : Int)) := by
      intro i hic
      obtain ⟨cs', h1, h2⟩ := hi i hic
      rw [ce] at h1
      obtain ⟨_, hlen, hcell⟩ := World.cells?_some h1
      obtain ⟨ys, m2, _, _, _, hyl, hys⟩ := DataW.trod_array he h2
      have hsp : spot = none := by
        obtain ⟨cs0, h10, _⟩ := hi 0 (by omega)
        rw [ce] at h10
        obtain ⟨_, hlen0, hcell0⟩ := World.cells?_some h10
        have := hcell0 0 (by omega)
        rw [List.getElem?_eq_getElem (by omega)] at this
        simpa [Addr.add] using World.cell?_spot this
      subst hsp
      have hat : ∀ j, j < 32 → W.cell? ⟨b, off + i * 32 + j, none⟩ = cs'[j]? := fun j hj => by
        have := hcell j (by omega)
        rw [add_plain, add_plain] at this
        exact this
      have q2 : ∀ j, j < 32 → cs'[j]? = some (.int .u8 ((u8Of cs'[j]?).toNat : Int)) := fun j hj => by
        have g := hys j hj
        rw [c8, Nat.mul_one, List.getElem?_eq_getElem (by omega)] at g
        obtain ⟨kk, hkk, _, hww⟩ := DataW.trod_int u8 g
        have h3 := congrArg (fun l => l[0]?) hkk
        have h4 : cs'[j]? = some (.int .u8 kk) := by
          simpa [List.getElem?_drop, List.getElem?_take] using h3
        rw [h4, u8Of_int hww]
      refine ⟨(List.range 32).map fun j => u8Of cs'[j]?, rfl, by simp, fun j hj => ?_⟩
      rw [hat j hj, q2 j hj]
      simp [hj]
    obtain ⟨q, hq⟩ := Go.Deep.choose_lt each
    have hall : Da.all32 ((List.range len).map q) := fun d hd => by
      obtain ⟨i, hi', rfl⟩ := List.mem_map.1 hd
      have hi2 : i < len := by simpa using hi'
      exact (hq i (by omega)).2.1
    refine ⟨some ⟨b, off, spot⟩, m, (List.range len).map q, by simp, ⟨by simpa using hl, hm, (fun h => by cases h), hall, fun h0 => ?_⟩⟩
    have h1 : 0 < len := by simpa using h0
    have hs := (hq 0 (by omega)).1
    subst hs
    refine ⟨b, off, rfl, hlt (.cell b off) (List.mem_append_left _ (MemPlace.mem_row.2 ⟨0, ?_, by simp⟩)), fun k x hx => ?_⟩
    · rw [ce]; omega
    · have hfl := Da.flat_len hall
      have hk : k < len * 32 := by
        have := (List.getElem?_eq_some_iff.1 hx).1
        rw [bytesV_length, hfl, List.length_map, List.length_range] at this
        exact this
      have hki : k / 32 < len := by omega
      have hkj : k % 32 < 32 := by omega
      have hat := Da.flat_at hall (k / 32) (k % 32) (by simpa using hki) hkj
      rw [show k / 32 * 32 + k % 32 = k by omega] at hat
      have hb : bi ((List.range len).map q) (k / 32) = q (k / 32) := bi_map _ _ _ hki
      rw [hb] at hat
      have hlen := (hq (k / 32) (by omega)).2.1
      have hc := (hq (k / 32) (by omega)).2.2 (k % 32) hkj
      rw [show off + k / 32 * 32 + k % 32 = off + k by omega] at hc
      rw [hc, ← hx]
      unfold bytesV
      rw [List.getElem?_map, hat, List.getElem?_eq_getElem (by omega)]
      simp [List.getD_eq_getElem?_getD, List.getElem?_eq_getElem (show k % 32 < (q (k / 32)).length by omega)]
end Go.Proofs.YtjcmihiajpgnjaaDoor
