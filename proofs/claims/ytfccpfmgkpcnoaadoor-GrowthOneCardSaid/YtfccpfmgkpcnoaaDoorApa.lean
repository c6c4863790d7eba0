/- append: where the row then lies; rows that are kept by what grows another. -/
import Derived.Test.YtfccpfmgkpcnoaaDoorHk
import Derived.Test.YtfccpfmgkpcnoaaDoorHp
import Derived.Maps.AppendAt
import Derived.Stop.BytesEq
namespace Go.Proofs.YtfccpfmgkpcnoaaDoor
open Go.RowKit
set_option linter.unusedVariables false
set_option linter.unusedSimpArgs false
/-- append, and where the row then lies -/
theorem append_row_at {ops : Array Oper} {rest : List Oper} {o : Oper} {a : Act} {Q : Exit → Act → World → Prop} {w : World} (hgd : o.guard = none) (s x : Operand)
    (ho : o.op = .call { callee := .builtin .append, args := #[s, x], argTypes := #[27, 27] })
    (base : Nat) (v : Value) (n : Nat) (z : List UInt8) (hs : a.eval s = v) (hown : w.ownsRow base 5 1 v n (bytesV z))
    (ad : Option Addr) (m c : Nat) (y : List UInt8) (hx : a.eval x = .slice ad m c) (hm : m = y.length) (hrow : RowIs w ad (bytesV y) c) (hl : n + m ≤ 10000000) (hbase : base ≤ w.heap.size)
    (h : ∀ v' w', w'.ownsRow base 5 1 v' (n + m) (bytesV (z ++ y)) → w.grownBy w' v.ownBlock → (v'.ownBlock = v.ownBlock ∨ v'.ownBlock = some w.heap.size) → wpList Tryd.prog ops Q rest (a.put o.dst v') w') : wpList Tryd.prog ops Q (o :: rest) a w := by
  obtain ⟨i0, hi, hz0, hz1, hz2⟩ := info_parts info_u8
  have e : bytesV (z ++ y) = bytesV z ++ bytesV y := by simp [bytesV]
  rw [e] at h
  subst hm
  cases ad with
  | none =>
    have h0 := hrow.nil rfl
    have hle := hrow.le
    simp only [bytesV_length] at hle
    obtain rfl : y = [] := List.eq_nil_of_length_eq_zero (by omega)
    subst h0
    refine wpList_append_own_none hgd s x 27 ho base 5 i0 1 Tryd.underlying27 hi v n (bytesV z) hs hown hx ?_
    exact h v w (by simpa [bytesV] using hown) ⟨rfl, rfl, rfl, Nat.le_refl _, fun _ _ _ => rfl⟩ (.inl rfl)
  | some ad =>
    refine wpList_append_own_at w hgd s x 27 ho base 5 i0 (.int .u8 0) 1 1 Tryd.underlying27 hi hz0 hz1 hz2 rfl (by decide) v n (bytesV z) hs hown ad y.length c (bytesV y) hx (by simp) (hrow.adds ad rfl) (bytesV_one y) (by unfold maxLen; omega) (by omega) hbase ?_
    intro v' w' h1 h2 _ h4
    exact h v' w' h1 h2 h4
theorem below_new0 (w : World) (o : Obj) : Below w.heap.size w (w.alloc o) := (Below.refl _ _).alloc (Nat.le_refl _) _
theorem own_kept {T : TypeId} {base n : Nat} {W W' : World} {v : Value} {xs : List Value} {r : Option Nat} (h : W.ownsRow base T 1 v n xs) (hg : W.grownBy W' r) (hne : v.ownBlock = none ∨ v.ownBlock ≠ r) : W'.ownsRow base T 1 v n xs := by
  obtain ⟨hl, hx⟩ := h
  refine ⟨hl, ?_⟩
  rcases hx with h0 | ⟨g, cap, cur, rfl, hb, hh, rest⟩
  · exact .inl h0
  · refine .inr ⟨g, cap, cur, rfl, hb, ?_, rest⟩
    rw [hg.block g (Array.getElem?_eq_some_iff.1 hh).1 (by rcases hne with h | h; (· cases h); exact h)]
    exact hh
theorem own_apart {T T' : TypeId} {X : World} {b b' n n' : Nat} {v v' : Value} {xs xs' : List Value} (h : X.ownsRow b T 1 v n xs) (h' : X.ownsRow b' T' 1 v' n' xs') (hT : T ≠ T') : v.ownBlock = none ∨ v.ownBlock ≠ v'.ownBlock := by
  rcases h.2 with ⟨rfl, _⟩ | ⟨g, cap, cur, rfl, _, h1, _⟩
  · exact .inl rfl
  · refine .inr fun e => ?_
    rcases h'.2 with ⟨rfl, _⟩ | ⟨g', cap', cur', rfl, _, h2, _⟩
    · cases e
    · cases e
      rw [h1] at h2
      injection h2 with h2
      injection h2 with _ h2 _
      exact hT h2
theorem mark_apart {T : TypeId} {X : World} {b n B : Nat} {v : Value} {xs : List Value} {z : List UInt8} (h : X.ownsRow b T 1 v n xs) (hM : MarkedAt X B z) (hT : T ≠ 5) : some B ≠ v.ownBlock := fun e => by
  rcases h.2 with ⟨rfl, _⟩ | ⟨g, cap, cur, rfl, _, h1, _⟩
  · cases e
  · cases e
    unfold MarkedAt at hM
    rw [hM] at h1
    injection h1 with h1
    injection h1 with _ h1 _
    exact hT h1.symm
theorem mark_kept {W W' : World} {B : Nat} {z : List UInt8} {r : Option Nat} (h : MarkedAt W B z) (hg : W.grownBy W' r) (hne : some B ≠ r) : MarkedAt W' B z := by
  unfold MarkedAt
  rw [hg.block B h.lt hne]; exact h
theorem d32_eql (xs ys : List UInt8) (hx : xs.length = 32) (hy : ys.length = 32) (w : World) : (binOp .eql 40 (.agg (bytesV xs).toArray) (.agg (bytesV ys).toArray)).run Tryd.prog w = .ok (.bool (xs == ys)) w :=
  run_eql_bytes w 40 5 32 d32_under Tryd.underlying5 (fun w => by
    obtain ⟨i0, hi, _, hz1, _⟩ := info_parts info_u8
    simp [sizeOf, typeInfo, hi, hz1]) xs ys hx hy
theorem d32_neq (xs ys : List UInt8) (hx : xs.length = 32) (hy : ys.length = 32) (w : World) : (binOp .neq 40 (.agg (bytesV xs).toArray) (.agg (bytesV ys).toArray)).run Tryd.prog w = .ok (.bool (!(xs == ys))) w := by
  have h := run_equalIn_bytes (P := Tryd.prog) w 9998 40 5 32 d32_under Tryd.underlying5 (fun w => by
    obtain ⟨i0, hi, _, hz1, _⟩ := info_parts info_u8
    simp [sizeOf, typeInfo, hi, hz1]) xs ys hx hy
  have h' : (Op.equalIn 10000 40 (.agg (bytesV xs).toArray) (.agg (bytesV ys).toArray)).run Tryd.prog w = .ok (xs == ys) w := h
  rw [run_neq_struct, h']
  rfl
theorem d32_guard : Tryd.prog.eqGuardType Tryd.prog.depth 40 = false := by kernel_rfl
theorem RowIs.pre {W : World} {o : Option Addr} {A : List UInt8} {c : Nat} (h : RowIs W o (bytesV A) c) (n : Nat) (hn : n ≤ A.length) : RowIs W o (bytesV (A.take n)) c := by
  have hle := h.le
  simp only [bytesV_length] at hle
  refine ⟨by rw [bytesV_length, List.length_take]; omega, h.cap, h.nil, fun h0 => ?_⟩
  have h1 : 0 < n ∧ 0 < A.length := by rw [bytesV_length, List.length_take] at h0; omega
  obtain ⟨b, off, e, hlt, hc⟩ := h.cells (by rw [bytesV_length]; exact h1.2)
  refine ⟨b, off, e, hlt, fun i v hv => hc i v ?_⟩
  have hi : i < n := by have := (List.getElem?_eq_some_iff.1 hv).1; rw [bytesV_length, List.length_take] at this; omega
  rw [← hv]
  simp [bytesV, List.getElem?_take, hi]
end Go.Proofs.YtfccpfmgkpcnoaaDoor
