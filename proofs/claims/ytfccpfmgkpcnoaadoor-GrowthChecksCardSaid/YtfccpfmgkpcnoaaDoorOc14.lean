/- An argument that is layer 14's struct Ask: how many leaves there were, and are, both roots, a proof. -/
import Derived.Test.YtfccpfmgkpcnoaaDoorOda13
namespace Go.Proofs.YtfccpfmgkpcnoaaDoor
open Go.RowKit
set_option linter.unusedVariables false
set_option linter.unusedSimpArgs false
def askG (m n : Int) (old now : List UInt8) (pv : Value) : List Value := [.int .i64 m, .int .i64 n] ++ (bytesV old ++ (bytesV now ++ [pv]))
theorem open_askG {H : Type} {enc : TypeId × Value → H} {P : Program} {W : World} {r : Reach} {base : Nat} {t ed e8 : TypeId} {f0 f1 f2 f3 f4 : Field} {v : Value} {d : DataW H} {p : List MemPlace}
    (ht : P.underlying t = some (.struct #[f0, f1, f2, f3, f4])) (hct : P.cellsOf t = 67) (o0 : f0.offset = 0) (o1 : f1.offset = 1) (o2 : f2.offset = 2) (o3 : f3.offset = 34) (o4 : f4.offset = 66)
    (c0 : P.cellsOf f0.type = 1) (c1 : P.cellsOf f1.type = 1) (c2 : P.cellsOf f2.type = 32) (c3 : P.cellsOf f3.type = 32) (c4 : P.cellsOf f4.type = 1)
    (u0 : P.underlying f0.type = some (.int .i64)) (u1 : P.underlying f1.type = some (.int .i64)) (u2 : P.underlying f2.type = some (.array 32 e8)) (u3 : P.underlying f3.type = some (.array 32 e8)) (u4 : P.underlying f4.type = some (.slice ed))
    (hed : P.underlying ed = some (.array 32 e8)) (ced : P.cellsOf ed = 32) (h8 : P.underlying e8 = some (.int .u8)) (c8 : P.cellsOf e8 = 1) (hval : Value.okWide P W r base t v)
    (h : DataW.Trod enc P W 0 (fun _ => true) true t v d p) (hlt : ∀ x ∈ p, x.block < W.heap.size) :
    ∃ (m n : Int) (old now : List UInt8) (op : Option Addr) (cp : Nat) (ps : List (List UInt8)), old.length = 32 ∧ now.length = 32 ∧ v = .agg (askG m n old now (.slice op ps.length cp)).toArray ∧
      (-9223372036854775808 ≤ m ∧ m ≤ 9223372036854775807) ∧ (-9223372036854775808 ≤ n ∧ n ≤ 9223372036854775807) ∧ DgIs W op ps cp := by
  obtain ⟨cs, rfl, hsz⟩ : ∃ cs, v = .agg cs ∧ cs.size = P.cellsOf t := by
    simp only [Value.okWide, ht] at hval
    obtain ⟨cs, h1, h2, _⟩ := hval
    exact ⟨cs, h1, h2⟩
  obtain ⟨fuel, hf⟩ := h
  obtain ⟨ys, nn, _, hx, hl, hlen, hg⟩ := DataW.trod_struct ht hf
  rw [hct] at hsz
  have hy5 : ys.length = 5 := hlen
  have g0 := hg 0 f0 rfl
  have g1 := hg 1 f1 rfl
  have g2 := hg 2 f2 rfl
  have g3 := hg 3 f3 rfl
  have g4 := hg 4 f4 rfl
  rw [List.getElem?_eq_getElem (by omega)] at g0 g1 g2 g3 g4
  simp only [Value.cells, o0, o1, o2, o3, o4, c0, c1, c2, c3, c4, List.drop_zero] at g0 g1 g2 g3 g4
  simp only [Prod.mk.injEq] at hx
  obtain ⟨rfl, rfl⟩ := hx
  obtain ⟨l⟩ := cs
  have hsl : l.length = 67 := by simpa using hsz
  have one : ∀ k (hk : k < 67), (l.drop k).take 1 = [l[k]'(by omega)] := fun k hk => by
    rw [List.drop_eq_getElem_cons (by omega)]; rfl
  have z0 := one 0 (by omega)
  rw [List.drop_zero] at z0
  rw [z0] at g0
  rw [one 1 (by omega)] at g1
  rw [one 66 (by omega)] at g4
  obtain ⟨k1, hk1, _, hw1⟩ := DataW.trod_int u0 g0
  obtain ⟨k2, hk2, _, hw2⟩ := DataW.trod_int u1 g1
  obtain ⟨zs, m2, _, _, _, hzl, hzs⟩ := DataW.trod_array u2 g2
  obtain ⟨zt, m3, _, _, _, hztl, hzt⟩ := DataW.trod_array u3 g3
  obtain ⟨op, cp, ps, e4, r4⟩ := open_digs5 u4 hed ced h8 c8 g4 (fun x hx => hlt x (List.mem_flatMap.2 ⟨_, List.getElem_mem _, hx⟩))
  have q : ∀ j, j < 32 → l[2 + j]? = some (.int .u8 ((u8Of l[2 + j]?).toNat : Int)) := fun j hj => by
    have g := hzs j hj
    rw [c8, Nat.mul_one, List.getElem?_eq_getElem (by omega)] at g
    obtain ⟨kk, hkk, _, hww⟩ := DataW.trod_int h8 g
    have h3 := congrArg (fun l => l[0]?) hkk
    have h4 : l[2 + j]? = some (.int .u8 kk) := by
      simp [List.getElem?_drop, List.getElem?_take, hj] at h3
      first | exact h3 | simpa [Nat.add_comm] using h3
    rw [h4, u8Of_int hww]
  have q2 : ∀ j, j < 32 → l[34 + j]? = some (.int .u8 ((u8Of l[34 + j]?).toNat : Int)) := fun j hj => by
    have g := hzt j hj
    rw [c8, Nat.mul_one, List.getElem?_eq_getElem (by omega)] at g
    obtain ⟨kk, hkk, _, hww⟩ := DataW.trod_int h8 g
    have h3 := congrArg (fun l => l[0]?) hkk
    have h4 : l[34 + j]? = some (.int .u8 kk) := by
      simp [List.getElem?_drop, List.getElem?_take, hj] at h3
      first | exact h3 | simpa [Nat.add_comm] using h3
    rw [h4, u8Of_int hww]
  refine ⟨k1, k2, (List.range 32).map fun j => u8Of l[2 + j]?, (List.range 32).map fun j => u8Of l[34 + j]?, op, cp, ps, by simp, by simp, ?_, i64_wf hw1, i64_wf hw2, r4⟩
  congr 1
  apply congrArg
  apply List.ext_getElem?
  intro j
  unfold askG
  have e1 : l[0]'(by omega) = .int .i64 k1 := by simpa using hk1
  have e2 : l[1]'(by omega) = .int .i64 k2 := by simpa using hk2
  by_cases h2 : j < 2
  · have : j = 0 ∨ j = 1 := by omega
    rcases this with rfl | rfl
    · rw [List.getElem?_eq_getElem (by omega), e1]; rfl
    · rw [List.getElem?_eq_getElem (by omega), e2]; rfl
  · rw [List.getElem?_append_right (by simp; omega)]
    simp only [List.length_cons, List.length_nil, Nat.reduceAdd]
    by_cases h34 : j < 34
    · obtain ⟨i, rfl⟩ : ∃ i, j = 2 + i := ⟨j - 2, by omega⟩
      rw [show 2 + i - 2 = i by omega, List.getElem?_append_left (by rw [bytesV_length]; simp; omega), q i (by omega)]
      unfold bytesV
      simp [show i < 32 by omega]
    · rw [List.getElem?_append_right (by rw [bytesV_length]; simp; omega), bytesV_length]
      simp only [List.length_map, List.length_range]
      by_cases h66 : j < 66
      · obtain ⟨i, rfl⟩ : ∃ i, j = 34 + i := ⟨j - 34, by omega⟩
        rw [show 34 + i - 2 - 32 = i by omega, List.getElem?_append_left (by rw [bytesV_length]; simp; omega), q2 i (by omega)]
        unfold bytesV
        simp [show i < 32 by omega]
      · rw [List.getElem?_append_right (by rw [bytesV_length]; simp; omega), bytesV_length]
        simp only [List.length_map, List.length_range]
        by_cases h67 : j < 67
        · obtain rfl : j = 66 := by omega
          rw [List.getElem?_eq_getElem (by omega), e4]; rfl
        · rw [List.getElem?_eq_none (by omega), List.getElem?_eq_none (by simp; omega)]
/-- such a struct, in a block -/
structure AskGAt (W : World) (g : Nat) (m n : Int) (old now : List UInt8) (pv : Value) : Prop where
  lt : g < W.heap.size
  cm : W.cell? ⟨g, 0, none⟩ = some (.int .i64 m)
  cn : W.cell? ⟨g, 1, none⟩ = some (.int .i64 n)
  ro : W.rangeAt g 2 (bytesV old)
  rn : W.rangeAt g 34 (bytesV now)
  cp : W.cell? ⟨g, 66, none⟩ = some pv
theorem AskGAt.later {W W' : World} {g : Nat} {m n : Int} {old now : List UInt8} {pv : Value} (h : AskGAt W g m n old now pv) (hb : Below W.heap.size W W') : AskGAt W' g m n old now pv :=
  ⟨Nat.lt_of_lt_of_le h.lt hb.size, by rw [hb.cell (p := ⟨g, 0, none⟩) h.lt]; exact h.cm, by rw [hb.cell (p := ⟨g, 1, none⟩) h.lt]; exact h.cn, rangeAt_later h.ro hb h.lt, rangeAt_later h.rn hb h.lt, by rw [hb.cell (p := ⟨g, 66, none⟩) h.lt]; exact h.cp⟩
theorem AskGAt.of {W : World} {g : Nat} {T : TypeId} {m n : Int} {old now : List UInt8} {pv : Value} (ho : old.length = 32) (hn : now.length = 32) (h : Arr W g T (askG m n old now pv)) : AskGAt W g m n old now pv := by
  have k1 : ∀ j, (askG m n old now pv)[2 + j]? = (bytesV old ++ (bytesV now ++ [pv]))[j]? := fun j => by
    unfold askG
    rw [List.getElem?_append_right (by simp)]
    congr 1
    simp
  refine ⟨h.lt, ?_, ?_, h.range 2 _ fun j v hv => ?_, h.range 34 _ fun j v hv => ?_, ?_⟩
  · rw [h.cell]; rfl
  · rw [h.cell]; rfl
  · have hj := (List.getElem?_eq_some_iff.1 hv).1
    rw [k1, List.getElem?_append_left hj]; exact hv
  · have hj := (List.getElem?_eq_some_iff.1 hv).1
    rw [show 34 + j = 2 + (32 + j) by omega, k1, List.getElem?_append_right (by rw [bytesV_length]; omega), bytesV_length, ho, show 32 + j - 32 = j by omega, List.getElem?_append_left hj]; exact hv
  · rw [h.cell, show 66 = 2 + 64 from rfl, k1, List.getElem?_append_right (by rw [bytesV_length]; omega), bytesV_length, ho, List.getElem?_append_right (by rw [bytesV_length]; omega), bytesV_length, hn]; rfl
end Go.Proofs.YtfccpfmgkpcnoaaDoor
