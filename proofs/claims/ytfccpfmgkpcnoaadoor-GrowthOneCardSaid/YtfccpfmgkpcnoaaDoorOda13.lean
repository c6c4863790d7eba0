/- Arguments that are a slice of arrays of 32 bytes. Arguments that are a struct of an array of 32 bytes, two numbers, a slice of bytes and a slice of arrays of 32 bytes. -/
import Derived.Test.YtfccpfmgkpcnoaaDoorOp
import Derived.Test.YtfccpfmgkpcnoaaDoorTg
import Derived.Deep.Slices
namespace Go.Proofs.YtfccpfmgkpcnoaaDoor
open Go.ChangeShapes Go.WideShapes Go.ChangeAt Go.RowKit
set_option linter.unusedVariables false
theorem open_digs {H : Type} {enc : TypeId × Value → H} {P : Program} {W : World} {r : Reach} {base : Nat} {t e e8 : TypeId} {v : Value} {d : DataW H} {p : List MemPlace}
    (ht : P.underlying t = some (.slice e)) (he : P.underlying e = some (.array 32 e8)) (ce : P.cellsOf e = 32) (u8 : P.underlying e8 = some (.int .u8)) (c8 : P.cellsOf e8 = 1) (hval : Value.okWide P W r base t v)
    (h : DataW.Trod enc P W 0 (fun _ => true) true t v d p) (hlt : ∀ x ∈ p, x.block < W.heap.size) :
    ∃ (o : Option Addr) (c : Nat) (bs : List (List UInt8)), v = .slice o bs.length c ∧ DgIs W o bs c := by
  obtain ⟨a0, len, cap, rfl⟩ := okWide_slice ht hval
  obtain ⟨fuel, hf⟩ := h
  rcases Go.Deep.open_slice ht hf with ⟨hcs, hx⟩ | ⟨a, len', cap', m, n, D, Pl, hcs, _, hl, hm, hmm, hx, hi⟩
  · simp [Value.cells] at hcs
    obtain ⟨rfl, rfl, rfl⟩ := hcs
    exact ⟨none, 0, [], rfl, DgIs.empty _ _ (Nat.zero_le _) (fun _ => rfl)⟩
  · simp [Value.cells] at hcs
    obtain ⟨rfl, rfl, rfl⟩ := hcs
    simp only [if_true] at hmm
    subst hmm
    simp only [Prod.mk.injEq] at hx
    obtain ⟨rfl, rfl⟩ := hx
    obtain ⟨b, off, spot⟩ := a
    have each : ∀ i, i < m → ∃ z : List UInt8, spot = none ∧ z.length = 32 ∧ ∀ j, j < 32 → W.cell? ⟨b, off + i * 32 + j, none⟩ = some (.int .u8 ((z.getD j 0).toNat : Int)) := by
      intro i hic
      obtain ⟨cs', h1, h2⟩ := hi i hic
      rw [ce] at h1
      obtain ⟨_, hlen, hcell⟩ := World.cells?_some h1
      obtain ⟨ys, m2, _, _, _, hyl, hys⟩ := DataW.trod_array he h2
      have hsp : spot = none := by
        obtain ⟨cs0, h10, _⟩ := hi 0 (by omega)
        rw [ce] at h10
        obtain ⟨_, hlen0, hcell0⟩ := World.cells?_some h10
        have := hcell0 0 (by omega)
        rw [List.getElem?_eq_getElem (by omega)] at this
        simpa [Addr.add] using World.cell?_spot this
      subst hsp
      have hat : ∀ j, j < 32 → W.cell? ⟨b, off + i * 32 + j, none⟩ = cs'[j]? := fun j hj => by
        have := hcell j (by omega)
        rw [add_plain, add_plain] at this
        exact this
      have q2 : ∀ j, j < 32 → cs'[j]? = some (.int .u8 ((u8Of cs'[j]?).toNat : Int)) := fun j hj => by
        have g := hys j hj
        rw [c8, Nat.mul_one, List.getElem?_eq_getElem (by omega)] at g
        obtain ⟨kk, hkk, _, hww⟩ := DataW.trod_int u8 g
        have h3 := congrArg (fun l => l[0]?) hkk
        have h4 : cs'[j]? = some (.int .u8 kk) := by
          simpa [List.getElem?_drop, List.getElem?_take] using h3
        rw [h4, u8Of_int hww]
      refine ⟨(List.range 32).map fun j => u8Of cs'[j]?, rfl, by simp, fun j hj => ?_⟩
      rw [hat j hj, q2 j hj]
      simp [hj]
    obtain ⟨q, hq⟩ := Go.Deep.choose_lt each
    have hall : Da.all32 ((List.range len).map q) := fun d hd => by
      obtain ⟨i, hi', rfl⟩ := List.mem_map.1 hd
      have hi2 : i < len := by simpa using hi'
      exact (hq i (by omega)).2.1
    refine ⟨some ⟨b, off, spot⟩, m, (List.range len).map q, by simp, ⟨by simpa using hl, hm, (fun h => by cases h), hall, fun h0 => ?_⟩⟩
    have h1 : 0 < len := by simpa using h0
    have hs := (hq 0 (by omega)).1
    subst hs
    refine ⟨b, off, rfl, hlt (.cell b off) (List.mem_append_left _ (MemPlace.mem_row.2 ⟨0, ?_, by simp⟩)), fun k x hx => ?_⟩
    · rw [ce]; omega
    · have hfl := Da.flat_len hall
      have hk : k < len * 32 := by
        have := (List.getElem?_eq_some_iff.1 hx).1
        rw [bytesV_length, hfl, List.length_map, List.length_range] at this
        exact this
      have hki : k / 32 < len := by omega
      have hkj : k % 32 < 32 := by omega
      have hat := Da.flat_at hall (k / 32) (k % 32) (by simpa using hki) hkj
      rw [show k / 32 * 32 + k % 32 = k by omega] at hat
      have hb : bi ((List.range len).map q) (k / 32) = q (k / 32) := bi_map _ _ _ hki
      rw [hb] at hat
      have hlen := (hq (k / 32) (by omega)).2.1
      have hc := (hq (k / 32) (by omega)).2.2 (k % 32) hkj
      rw [show off + k / 32 * 32 + k % 32 = off + k by omega] at hc
      rw [hc, ← hx]
      unfold bytesV
      rw [List.getElem?_map, hat, List.getElem?_eq_getElem (by omega)]
      simp [List.getD_eq_getElem?_getD, List.getElem?_eq_getElem (show k % 32 < (q (k / 32)).length by omega)]
end Go.Proofs.YtfccpfmgkpcnoaaDoor
namespace Go.Proofs.YtfccpfmgkpcnoaaDoor
open Go.ChangeShapes Go.WideShapes Go.ChangeAt Go.RowKit
set_option linter.unusedSimpArgs false
set_option linter.unusedVariables false
/-- the cells of such a struct -/
def askL (root : List UInt8) (n i : Int) (lv pv : Value) : List Value := bytesV root ++ [.int .i64 n, .int .i64 i, lv, pv]
/-- a slice of arrays of 32 bytes, in one cell -/
theorem open_digs5 {H : Type} {enc : TypeId × Value → H} {P : Program} {W : World} {fuel : Nat} {t e e8 : TypeId} {c0 : Value} {y : DataW H × List MemPlace}
    (ht : P.underlying t = some (.slice e)) (he : P.underlying e = some (.array 32 e8)) (ce : P.cellsOf e = 32) (u8 : P.underlying e8 = some (.int .u8)) (c8 : P.cellsOf e8 = 1)
    (h : DataW.trod enc P W 0 (fun _ => true) true fuel t [c0] = some y) (hlt : ∀ x ∈ y.2, x.block < W.heap.size) :
    ∃ (o : Option Addr) (c : Nat) (bs : List (List UInt8)), c0 = .slice o bs.length c ∧ DgIs W o bs c := by
  rcases Go.Deep.open_slice ht h with ⟨hcs, hx⟩ | ⟨a, len', cap', m, n, D, Pl, hcs, _, hl, hm, hmm, hx, hi⟩
  · simp at hcs
    subst hcs
    exact ⟨none, 0, [], rfl, DgIs.empty _ _ (Nat.zero_le _) (fun _ => rfl)⟩
  · simp at hcs
    subst hcs
    simp only [if_true] at hmm
    subst hx
    dsimp only at hlt
    obtain ⟨b, off, spot⟩ := a
    have each : ∀ i, i < m → ∃ z : List UInt8, spot = none ∧ z.length = 32 ∧ ∀ j, j < 32 → W.cell? ⟨b, off + i * 32 + j, none⟩ = some (.int .u8 ((z.getD j 0).toNat : Int)) := by
      intro i hic
      obtain ⟨cs', h1, h2⟩ := hi i hic
      rw [ce] at h1
      obtain ⟨_, hlen, hcell⟩ := World.cells?_some h1
      obtain ⟨ys, m2, _, _, _, hyl, hys⟩ := DataW.trod_array he h2
      have hsp : spot = none := by
        obtain ⟨cs0, h10, _⟩ := hi 0 (by omega)
        rw [ce] at h10
        obtain ⟨_, hlen0, hcell0⟩ := World.cells?_some h10
        have := hcell0 0 (by omega)
        rw [List.getElem?_eq_getElem (by omega)] at this
        simpa [Addr.add] using World.cell?_spot this
      subst hsp
      have hat : ∀ j, j < 32 → W.cell? ⟨b, off + i * 32 + j, none⟩ = cs'[j]? := fun j hj => by
        have := hcell j (by omega)
        rw [add_plain, add_plain] at this
        exact this
      have q2 : ∀ j, j < 32 → cs'[j]? = some (.int .u8 ((u8Of cs'[j]?).toNat : Int)) := fun j hj => by
        have g := hys j hj
        rw [c8, Nat.mul_one, List.getElem?_eq_getElem (by omega)] at g
        obtain ⟨kk, hkk, _, hww⟩ := DataW.trod_int u8 g
        have h3 := congrArg (fun l => l[0]?) hkk
        have h4 : cs'[j]? = some (.int .u8 kk) := by
          simpa [List.getElem?_drop, List.getElem?_take] using h3
        rw [h4, u8Of_int hww]
      refine ⟨(List.range 32).map fun j => u8Of cs'[j]?, rfl, by simp, fun j hj => ?_⟩
      rw [hat j hj, q2 j hj]
      simp [hj]
    obtain ⟨q, hq⟩ := Go.Deep.choose_lt each
    have hall : Da.all32 ((List.range len').map q) := fun d hd => by
      obtain ⟨i, hi', rfl⟩ := List.mem_map.1 hd
      have hi2 : i < len' := by simpa using hi'
      exact (hq i (by omega)).2.1
    refine ⟨some ⟨b, off, spot⟩, cap', (List.range len').map q, by simp, ⟨by simpa using hl, hm, (fun h => by cases h), hall, fun h0 => ?_⟩⟩
    have h1 : 0 < len' := by simpa using h0
    have hs := (hq 0 (by omega)).1
    subst hs
    refine ⟨b, off, rfl, hlt (.cell b off) (List.mem_append_left _ (MemPlace.mem_row.2 ⟨0, ?_, by simp⟩)), fun k x hx => ?_⟩
    · rw [ce]; omega
    · have hfl := Da.flat_len hall
      have hk : k < len' * 32 := by
        have := (List.getElem?_eq_some_iff.1 hx).1
        rw [bytesV_length, hfl, List.length_map, List.length_range] at this
        exact this
      have hki : k / 32 < len' := by omega
      have hkj : k % 32 < 32 := by omega
      have hat := Da.flat_at hall (k / 32) (k % 32) (by simpa using hki) hkj
      rw [show k / 32 * 32 + k % 32 = k by omega] at hat
      have hb : bi ((List.range len').map q) (k / 32) = q (k / 32) := bi_map _ _ _ hki
      rw [hb] at hat
      have hlen := (hq (k / 32) (by omega)).2.1
      have hc := (hq (k / 32) (by omega)).2.2 (k % 32) hkj
      rw [show off + k / 32 * 32 + k % 32 = off + k by omega] at hc
      rw [hc, ← hx]
      unfold bytesV
      rw [List.getElem?_map, hat, List.getElem?_eq_getElem (by omega)]
      simp [List.getD_eq_getElem?_getD, List.getElem?_eq_getElem (show k % 32 < (q (k / 32)).length by omega)]
/-- an argument that is such a struct -/
theorem open_ask {H : Type} {enc : TypeId × Value → H} {P : Program} {W : World} {r : Reach} {base : Nat} {t eb ed e8 : TypeId} {f0 f1 f2 f3 f4 : Field} {v : Value} {d : DataW H} {p : List MemPlace}
    (ht : P.underlying t = some (.struct #[f0, f1, f2, f3, f4])) (hct : P.cellsOf t = 36) (o0 : f0.offset = 0) (o1 : f1.offset = 32) (o2 : f2.offset = 33) (o3 : f3.offset = 34) (o4 : f4.offset = 35)
    (c0 : P.cellsOf f0.type = 32) (c1 : P.cellsOf f1.type = 1) (c2 : P.cellsOf f2.type = 1) (c3 : P.cellsOf f3.type = 1) (c4 : P.cellsOf f4.type = 1)
    (u0 : P.underlying f0.type = some (.array 32 e8)) (u1 : P.underlying f1.type = some (.int .i64)) (u2 : P.underlying f2.type = some (.int .i64)) (u3 : P.underlying f3.type = some (.slice eb)) (u4 : P.underlying f4.type = some (.slice ed))
    (hed : P.underlying ed = some (.array 32 e8)) (ced : P.cellsOf ed = 32) (hb : P.underlying eb = some (.int .u8)) (cb : P.cellsOf eb = 1) (h8 : P.underlying e8 = some (.int .u8)) (c8 : P.cellsOf e8 = 1) (hval : Value.okWide P W r base t v)
    (h : DataW.Trod enc P W 0 (fun _ => true) true t v d p) (hlt : ∀ x ∈ p, x.block < W.heap.size) :
    ∃ (root leaf : List UInt8) (n i : Int) (ol op : Option Addr) (cl cp : Nat) (ps : List (List UInt8)), root.length = 32 ∧ v = .agg (askL root n i (.slice ol leaf.length cl) (.slice op ps.length cp)).toArray ∧
      (-9223372036854775808 ≤ n ∧ n ≤ 9223372036854775807) ∧ (-9223372036854775808 ≤ i ∧ i ≤ 9223372036854775807) ∧ RowIs W ol (bytesV leaf) cl ∧ DgIs W op ps cp := by
  obtain ⟨cs, rfl, hsz⟩ : ∃ cs, v = .agg cs ∧ cs.size = P.cellsOf t := by
    simp only [Value.okWide, ht] at hval
    obtain ⟨cs, h1, h2, _⟩ := hval
    exact ⟨cs, h1, h2⟩
  obtain ⟨fuel, hf⟩ := h
  obtain ⟨ys, nn, _, hx, hl, hlen, hg⟩ := DataW.trod_struct ht hf
  rw [hct] at hsz
  have hy5 : ys.length = 5 := hlen
  have g0 := hg 0 f0 rfl
  have g1 := hg 1 f1 rfl
  have g2 := hg 2 f2 rfl
  have g3 := hg 3 f3 rfl
  have g4 := hg 4 f4 rfl
  rw [List.getElem?_eq_getElem (by omega)] at g0 g1 g2 g3 g4
  simp only [Value.cells, o0, o1, o2, o3, o4, c0, c1, c2, c3, c4, List.drop_zero] at g0 g1 g2 g3 g4
  simp only [Prod.mk.injEq] at hx
  obtain ⟨rfl, rfl⟩ := hx
  obtain ⟨l⟩ := cs
  have hsl : l.length = 36 := by simpa using hsz
  have one : ∀ k (hk : k < 36), (l.drop k).take 1 = [l[k]'(by omega)] := fun k hk => by
    rw [List.drop_eq_getElem_cons (by omega)]; rfl
  rw [one 32 (by omega)] at g1
  rw [one 33 (by omega)] at g2
  rw [one 34 (by omega)] at g3
  rw [one 35 (by omega)] at g4
  obtain ⟨zs, m2, _, _, _, hzl, hzs⟩ := DataW.trod_array u0 g0
  obtain ⟨k1, hk1, _, hw1⟩ := DataW.trod_int u1 g1
  obtain ⟨k2, hk2, _, hw2⟩ := DataW.trod_int u2 g2
  obtain ⟨ol, cl, leaf, e3, r3⟩ := open_bytes5 u3 hb cb g3 (fun x hx => hlt x (List.mem_flatMap.2 ⟨_, List.getElem_mem _, hx⟩))
  obtain ⟨op, cp, ps, e4, r4⟩ := open_digs5 u4 hed ced h8 c8 g4 (fun x hx => hlt x (List.mem_flatMap.2 ⟨_, List.getElem_mem _, hx⟩))
  have q : ∀ j, j < 32 → l[j]? = some (.int .u8 ((u8Of l[j]?).toNat : Int)) := fun j hj => by
    have g := hzs j hj
    rw [c8, Nat.mul_one, List.getElem?_eq_getElem (by omega)] at g
    obtain ⟨kk, hkk, _, hww⟩ := DataW.trod_int h8 g
    have h3 := congrArg (fun l => l[0]?) hkk
    have h4 : l[j]? = some (.int .u8 kk) := by
      simp [List.getElem?_drop, List.getElem?_take, hj] at h3
      exact h3
    rw [h4, u8Of_int hww]
  refine ⟨(List.range 32).map fun j => u8Of l[j]?, leaf, k1, k2, ol, op, cl, cp, ps, by simp, ?_, i64_wf hw1, i64_wf hw2, r3, r4⟩
  congr 1
  apply congrArg
  apply List.ext_getElem?
  intro j
  unfold askL
  by_cases hj : j < 32
  · rw [List.getElem?_append_left (by rw [bytesV_length]; simpa using hj), q j hj]
    unfold bytesV
    simp [hj]
  · rw [List.getElem?_append_right (by rw [bytesV_length]; simpa using hj), bytesV_length]
    simp only [List.length_map, List.length_range]
    have e1 : l[32]'(by omega) = .int .i64 k1 := by simpa using hk1
    have e2 : l[33]'(by omega) = .int .i64 k2 := by simpa using hk2
    by_cases h36 : j < 36
    · have : j = 32 ∨ j = 33 ∨ j = 34 ∨ j = 35 := by omega
      rcases this with rfl | rfl | rfl | rfl
      · rw [List.getElem?_eq_getElem (by omega), e1]; rfl
      · rw [List.getElem?_eq_getElem (by omega), e2]; rfl
      · rw [List.getElem?_eq_getElem (by omega), e3]; rfl
      · rw [List.getElem?_eq_getElem (by omega), e4]; rfl
    · rw [List.getElem?_eq_none (by omega), List.getElem?_eq_none (by simp; omega)]
end Go.Proofs.YtfccpfmgkpcnoaaDoor
