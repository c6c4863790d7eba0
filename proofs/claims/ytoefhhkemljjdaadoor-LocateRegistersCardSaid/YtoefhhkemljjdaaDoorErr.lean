/- Contracts of errors.Is at values of errors.New's make, and of the statements' numbers for errors. -/
import Derived.Test.YtoefhhkemljjdaaDoorKit
import Derived.LaidEql
import Derived.Stop.Asserts
import Derived.RowKitTokens
import Derived.Lib.Hide
import Derived.Outline
namespace Go.Proofs.YtoefhhkemljjdaaDoor
open Go.RowKit Go.Extern.Stop Go.Stop Go.Extern
set_option linter.unusedVariables false
namespace Er
theorem isTypeOf (v : Value) (w : World) : (Extern.ReflectliteType.typeOf #[.iface 122 v]).run Tryd.prog w = .ok (.iface 113 (.agg #[.pointer (some ⟨20, 122, none⟩)])) w := by kernel_rfl
theorem isComp : (Tryd.prog.info? 122).map (·.comparable) = some true := by kernel_rfl
theorem isSize : (Tryd.prog.info? 148).map (·.size) = some 1 := by kernel_rfl
theorem noIsE (v : Value) (xT : TypeId) (w : World) : (Instr.typeAssert (.iface 122 v) xT 115 true).run Tryd.prog w = .ok (.tuple #[.nilIface, .bool false]) w := run_typeAssert_lacksB Tryd.underlying115 (by kernel_rfl) (by kernel_rfl) v xT w
theorem noUnwrapE (v : Value) (xT : TypeId) (w : World) : (Instr.typeAssert (.iface 122 v) xT 118 true).run Tryd.prog w = .ok (.tuple #[.nilIface, .bool false]) w := run_typeAssert_lacksB Tryd.underlying118 (by kernel_rfl) (by kernel_rfl) v xT w
theorem noUnwrapsE (v : Value) (xT : TypeId) (w : World) : (Instr.typeAssert (.iface 122 v) xT 120 true).run Tryd.prog w = .ok (.tuple #[.nilIface, .bool false]) w := run_typeAssert_lacksB Tryd.underlying120 (by kernel_rfl) (by kernel_rfl) v xT w

/-- errors.Is(nil, x) -/
theorem is_nil (b : Addr) (w : World) :
    Calls Tryd.prog 39 #[.nilIface, .iface 122 (.pointer (some b))] w fun e w' => e = .returned (.bool false) ∧ w = w' := by
  have hn := run_eql_iface_nil_left (P := Tryd.prog) w 122 (.pointer (some b)) Tryd.underlying28
  go_enter Tryd.func39, Tryd.ntmps39
  go_wp2
  go_ret
  exact ⟨rfl, rfl⟩

/-- the errors, in the order of their numbers: name, number in the translation, text's place in the row -/
def names : List (String × Nat) := [("bailee/api.ErrRange", 1), ("bailee/api.ErrShort", 4), ("bailee/api.ErrLong", 5), ("bailee/api.ErrForm", 6), ("bailee/api.ErrSum", 7), ("bailee/api.ErrName", 8), ("bailee/api.ErrKind", 9), ("bailee/api.ErrSize", 0), ("bailee/api.ErrKey", 10), ("bailee/api.ErrDup", 2), ("bailee/api.ErrNone", 11), ("bailee/api.ErrFull", 12), ("bailee/api.ErrState", 13), ("bailee/api.ErrPower", 14), ("bailee/api.ErrProof", 15), ("bailee/api.ErrSpare", 3), ("bailee/api.ErrLost", 16), ("bailee/api.ErrBudget", 17), ("bailee/api.ErrLate", 18), ("bailee/api.ErrZero", 19)]

/-- where the twenty sentinels lie: A i is number i + 1 -/
structure Errs (W : World) (A : Nat → Addr) : Prop where
  inj : ∀ i j, i < 20 → j < 20 → A i = A j → i = j
  c0 : W.cell? ⟨1, 0, none⟩ = some (.iface 122 (.pointer (some (A 0))))
  c1 : W.cell? ⟨4, 0, none⟩ = some (.iface 122 (.pointer (some (A 1))))
  c2 : W.cell? ⟨5, 0, none⟩ = some (.iface 122 (.pointer (some (A 2))))
  c3 : W.cell? ⟨6, 0, none⟩ = some (.iface 122 (.pointer (some (A 3))))
  c4 : W.cell? ⟨7, 0, none⟩ = some (.iface 122 (.pointer (some (A 4))))
  c5 : W.cell? ⟨8, 0, none⟩ = some (.iface 122 (.pointer (some (A 5))))
  c6 : W.cell? ⟨9, 0, none⟩ = some (.iface 122 (.pointer (some (A 6))))
  c7 : W.cell? ⟨0, 0, none⟩ = some (.iface 122 (.pointer (some (A 7))))
  c8 : W.cell? ⟨10, 0, none⟩ = some (.iface 122 (.pointer (some (A 8))))
  c9 : W.cell? ⟨2, 0, none⟩ = some (.iface 122 (.pointer (some (A 9))))
  c10 : W.cell? ⟨11, 0, none⟩ = some (.iface 122 (.pointer (some (A 10))))
  c11 : W.cell? ⟨12, 0, none⟩ = some (.iface 122 (.pointer (some (A 11))))
  c12 : W.cell? ⟨13, 0, none⟩ = some (.iface 122 (.pointer (some (A 12))))
  c13 : W.cell? ⟨14, 0, none⟩ = some (.iface 122 (.pointer (some (A 13))))
  c14 : W.cell? ⟨15, 0, none⟩ = some (.iface 122 (.pointer (some (A 14))))
  c15 : W.cell? ⟨3, 0, none⟩ = some (.iface 122 (.pointer (some (A 15))))
  c16 : W.cell? ⟨16, 0, none⟩ = some (.iface 122 (.pointer (some (A 16))))
  c17 : W.cell? ⟨17, 0, none⟩ = some (.iface 122 (.pointer (some (A 17))))
  c18 : W.cell? ⟨18, 0, none⟩ = some (.iface 122 (.pointer (some (A 18))))
  c19 : W.cell? ⟨19, 0, none⟩ = some (.iface 122 (.pointer (some (A 19))))
  block : ∀ i, i < 20 → ∃ c t, W.heap[(A i).block]? = some (.cells c t (0, 0))
/-- old memory untouched: the sentinels stay -/
theorem Errs.later {W W' : World} {A : Nat → Addr} (h : Errs W A) (hb : Below W.heap.size W W') : Errs W' A := by
  have k : ∀ (g : Nat) (v : Value), W.cell? ⟨g, 0, none⟩ = some v → W'.cell? ⟨g, 0, none⟩ = some v := by
    intro g v hc
    have hlt : g < W.heap.size := by
      unfold World.cell? at hc
      cases hh : W.heap[g]? with
      | none => simp [hh] at hc
      | some o => exact (Array.getElem?_eq_some_iff.1 hh).1
    rw [hb.cell (p := ⟨g, 0, none⟩) hlt]; exact hc
  refine ⟨h.inj, k _ _ h.c0, k _ _ h.c1, k _ _ h.c2, k _ _ h.c3, k _ _ h.c4, k _ _ h.c5, k _ _ h.c6, k _ _ h.c7, k _ _ h.c8, k _ _ h.c9, k _ _ h.c10, k _ _ h.c11, k _ _ h.c12, k _ _ h.c13, k _ _ h.c14, k _ _ h.c15, k _ _ h.c16, k _ _ h.c17, k _ _ h.c18, k _ _ h.c19, ?_⟩
  intro i hi
  obtain ⟨c, t, hh⟩ := h.block i hi
  have hlt : (A i).block < W.heap.size := (Array.getElem?_eq_some_iff.1 hh).1
  exact ⟨c, t, by rw [hb.block _ hlt]; exact hh⟩

/-- Num(nil) -/
theorem num_nil (w : World) :
    Calls Tryd.prog 12 #[.nilIface] w fun e w' => e = .returned (.int .i64 0) ∧ w = w' := by
  go_enter Tryd.func12, Tryd.ntmps12
  go_wp2
  go_ret
  exact ⟨rfl, rfl⟩

def NumAt (w : World) (A : Nat → Addr) (k : Nat) (v : Value) (wr : World) : Prop :=
  ∃ (i : Nat) (C : Array Value), i ≤ k ∧ v = .int .i64 i ∧ (∀ j, j < 20 → C[j]? = some (.iface 122 (.pointer (some (A j))))) ∧ wr = w.alloc (.cells C 28)
end Er
end Go.Proofs.YtoefhhkemljjdaaDoor
