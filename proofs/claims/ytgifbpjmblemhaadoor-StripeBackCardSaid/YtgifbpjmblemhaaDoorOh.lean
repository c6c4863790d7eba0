/- An argument that is a slice of hits: a number, a truth, eight bytes. -/
import Derived.Test.YtgifbpjmblemhaaDoorOp
import Derived.Test.YtgifbpjmblemhaaDoorGf
namespace Go.Proofs.YtgifbpjmblemhaaDoor
open Go.ChangeShapes Go.WideShapes Go.ChangeAt Go.RowKit
set_option linter.unusedVariables false
structure HitT where
  p : Int
  g : Bool
  y : List UInt8
instance : Inhabited HitT := ⟨⟨0, false, []⟩⟩
/-- ten cells are a hit -/
structure HitAt (W : World) (b off : Nat) (z : HitT) : Prop where
  lo : -9223372036854775808 ≤ z.p
  hi : z.p ≤ 9223372036854775807
  len : z.y.length = 8
  c0 : W.cell? ⟨b, off, none⟩ = some (.int .i64 z.p)
  c1 : W.cell? ⟨b, off + 1, none⟩ = some (.bool z.g)
  c2 : ∀ j, j < 8 → W.cell? ⟨b, off + 2 + j, none⟩ = some (.int .u8 ((co z.y j).toNat : Int))
theorem HitAt.later {W W' : World} {b off : Nat} {z : HitT} (h : HitAt W b off z) (hlt : b < W.heap.size) (hb : Below W.heap.size W W') : HitAt W' b off z :=
  ⟨h.lo, h.hi, h.len, by rw [hb.cell (p := ⟨b, off, none⟩) hlt]; exact h.c0, by rw [hb.cell (p := ⟨b, off + 1, none⟩) hlt]; exact h.c1, fun j hj => by rw [hb.cell (p := ⟨b, off + 2 + j, none⟩) hlt]; exact h.c2 j hj⟩
structure HitsIs (W : World) (o : Option Addr) (zs : List HitT) (c : Nat) : Prop where
  le : zs.length ≤ c
  cap : c ≤ maxLen
  nil : o = none → c = 0
  cells : 0 < zs.length → ∃ b off, o = some ⟨b, off, none⟩ ∧ b < W.heap.size ∧ ∀ i, i < zs.length → HitAt W b (off + i * 10) (zs.getD i default)
theorem HitsIs.later {W W' : World} {o : Option Addr} {zs : List HitT} {c : Nat} (h : HitsIs W o zs c) (hb : Below W.heap.size W W') : HitsIs W' o zs c :=
  ⟨h.le, h.cap, h.nil, fun h0 => by
    obtain ⟨b, off, e, hlt, hc⟩ := h.cells h0
    exact ⟨b, off, e, Nat.lt_of_lt_of_le hlt hb.size, fun i hi => (hc i hi).later hlt hb⟩⟩
theorem open_hits {H : Type} {enc : TypeId × Value → H} {P : Program} {W : World} {r : Reach} {base : Nat} {t e e8 : TypeId} {f0 f1 f2 : Field} {v : Value} {d : DataW H} {p : List MemPlace}
    (ht : P.underlying t = some (.slice e)) (he : P.underlying e = some (.struct #[f0, f1, f2])) (ce : P.cellsOf e = 10) (o0 : f0.offset = 0) (o1 : f1.offset = 1) (o2 : f2.offset = 2) (c0 : P.cellsOf f0.type = 1) (c1 : P.cellsOf f1.type = 1) (c2 : P.cellsOf f2.type = 8)
    (u0 : P.underlying f0.type = some (.int .i64)) (u1 : P.underlying f1.type = some .bool) (u2 : P.underlying f2.type = some (.array 8 e8)) (u8 : P.underlying e8 = some (.int .u8)) (c8 : P.cellsOf e8 = 1) (hval : Value.okWide P W r base t v)
    (h : DataW.Trod enc P W 0 (fun _ => true) true t v d p) (hlt : ∀ x ∈ p, x.block < W.heap.size) :
    ∃ (o : Option Addr) (c : Nat) (zs : List HitT), v = .slice o zs.length c ∧ HitsIs W o zs c := by
  obtain ⟨a0, len, cap, rfl⟩ := okWide_slice ht hval
  obtain ⟨fuel, hf⟩ := h
  rcases Go.Deep.open_slice ht hf with ⟨hcs, hx⟩ | ⟨a, len', cap', m, n, D, Pl, hcs, _, hl, hm, hmm, hx, hi⟩
  · simp [Value.cells] at hcs
    obtain ⟨rfl, rfl, rfl⟩ := hcs
    exact ⟨none, 0, [], rfl, ⟨Nat.le_refl _, Nat.zero_le _, fun _ => rfl, fun h => absurd h (by simp)⟩⟩
  · simp [Value.cells] at hcs
    obtain ⟨rfl, rfl, rfl⟩ := hcs
    simp only [if_true] at hmm
    subst hmm
    simp only [Prod.mk.injEq] at hx
    obtain ⟨rfl, rfl⟩ := hx
    obtain ⟨b, off, spot⟩ := a
    have each : ∀ i, i < m → ∃ z : HitT, spot = none ∧ HitAt W b (off + i * 10) z := by
      intro i hic
      obtain ⟨cs', h1, h2⟩ := hi i hic
      rw [ce] at h1
      obtain ⟨_, hlen, hcell⟩ := World.cells?_some h1
      obtain ⟨xs, k, hk, hxy, _, hxl, hfs⟩ := DataW.trod_struct he h2
      have g0 := hfs 0 f0 rfl
      have g1 := hfs 1 f1 rfl
      have g2 := hfs 2 f2 rfl
      have hx3 : xs.length = 3 := hxl
      rw [o0, c0, List.getElem?_eq_getElem (by omega)] at g0
      rw [o1, c1, List.getElem?_eq_getElem (by omega)] at g1
      rw [o2, c2, List.getElem?_eq_getElem (by omega)] at g2
      obtain ⟨k0, hk0, _, hw0⟩ := DataW.trod_int u0 g0
      obtain ⟨k1, hk1, _⟩ := DataW.trod_bool u1 g1
      obtain ⟨ys, m2, _, _, _, hyl, hys⟩ := DataW.trod_array u2 g2
      have hsp : spot = none := by
        obtain ⟨cs0, h10, _⟩ := hi 0 (by omega)
        rw [ce] at h10
        obtain ⟨_, hlen0, hcell0⟩ := World.cells?_some h10
        have := hcell0 0 (by omega)
        rw [List.getElem?_eq_getElem (by omega)] at this
        simpa [Addr.add] using World.cell?_spot this
      subst hsp
      have hat : ∀ j, j < 10 → W.cell? ⟨b, off + i * 10 + j, none⟩ = cs'[j]? := fun j hj => by
        have := hcell j (by omega)
        rw [add_plain, add_plain] at this
        exact this
      have q0 : cs'[0]? = some (.int .i64 k0) := by
        have := congrArg (fun l => l[0]?) hk0
        simpa using this
      have q1 : cs'[1]? = some (.bool k1) := by
        have := congrArg (fun l => l[0]?) hk1
        simpa using this
      have q2 : ∀ j, j < 8 → cs'[2 + j]? = some (.int .u8 ((u8Of cs'[2 + j]?).toNat : Int)) := fun j hj => by
        have g := hys j hj
        rw [c8, Nat.mul_one, List.getElem?_eq_getElem (by omega)] at g
        obtain ⟨kk, hkk, _, hww⟩ := DataW.trod_int u8 g
        have h3 := congrArg (fun l => l[0]?) hkk
        have h4 : cs'[2 + j]? = some (.int .u8 kk) := by
          simp [List.getElem?_drop, List.getElem?_take] at h3
          exact h3.2
        rw [h4, u8Of_int hww]
      have hw := i64_wf hw0
      refine ⟨⟨k0, k1, (List.range 8).map fun j => u8Of cs'[2 + j]?⟩, rfl, ⟨hw.1, hw.2, by simp, by rw [← q0]; exact hat 0 (by omega), by rw [← q1]; exact hat 1 (by omega), fun j hj => ?_⟩⟩
      have e : co ((List.range 8).map fun j => u8Of cs'[2 + j]?) j = u8Of cs'[2 + j]? := by simp [co, List.getD_eq_getElem?_getD, hj]
      rw [e, ← q2 j hj, ← hat (2 + j) (by omega), Nat.add_assoc]
    obtain ⟨q, hq⟩ := Go.Deep.choose_lt each
    have hget : ∀ i, i < len → ((List.range len).map q).getD i default = q i := fun i hil => by simp [List.getD_eq_getElem?_getD, hil]
    refine ⟨some ⟨b, off, spot⟩, m, (List.range len).map q, by simp, ⟨by simpa using hl, hm, (fun h => by cases h), fun h0 => ?_⟩⟩
    have h1 : 0 < len := by simpa using h0
    have hs := (hq 0 (by omega)).1
    subst hs
    refine ⟨b, off, rfl, hlt (.cell b off) (List.mem_append_left _ (MemPlace.mem_row.2 ⟨0, by rw [ce]; omega, by simp⟩)), fun i hil => ?_⟩
    have hil : i < len := by simpa using hil
    rw [hget i hil]
    exact (hq i (by omega)).2
end Go.Proofs.YtgifbpjmblemhaaDoor
