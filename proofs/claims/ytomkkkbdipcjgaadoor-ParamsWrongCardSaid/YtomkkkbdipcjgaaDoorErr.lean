/- Contracts of errors.Is at values of errors.New's make, and of the statements' numbers for errors. -/
import Derived.Test.YtomkkkbdipcjgaaDoorKit
import Derived.LaidEql
import Derived.Stop.Asserts
import Derived.RowKitTokens
import Derived.Lib.Hide
import Derived.Outline
namespace Go.Proofs.YtomkkkbdipcjgaaDoor
open Go.RowKit Go.Extern.Stop Go.Stop Go.Extern
set_option linter.unusedVariables false
namespace Er
theorem isTypeOf (v : Value) (w : World) : (Extern.ReflectliteType.typeOf #[.iface 127 v]).run Tryd.prog w = .ok (.iface 98 (.agg #[.pointer (some ⟨25, 127, none⟩)])) w := by kernel_rfl
theorem isComparable (w : World) : (callFunc 86 #[.agg #[.pointer (some ⟨25, 127, none⟩)]]).run Tryd.prog w = .ok (Next.value (.bool true)) w := by
  have h := @run_callFunc_extern Tryd.prog 86 _ (Extern.ReflectliteType.method fun t => do Rtype.noPackHeld "Comparable" t; pure (.bool (← typeInfo t).comparable)) Tryd.func86 (by kernel_rfl) (by kernel_rfl) (by kernel_rfl) (by kernel_rfl) #[.agg #[.pointer (some ⟨25, 127, none⟩)]] w
  have r : ((Extern.ReflectliteType.method fun t => do Rtype.noPackHeld "Comparable" t; pure (.bool (← typeInfo t).comparable)) #[.agg #[.pointer (some ⟨25, 127, none⟩)]]).run Tryd.prog w = .ok (.bool true) w := by kernel_rfl
  rw [h, r]; rfl
theorem isMethodComparable (v : Value) (w : World) : (Go.method 259 98 v "Comparable").run Tryd.prog w = .ok (86, v) w := by kernel_rfl
theorem isComp : (Tryd.prog.info? 127).map (·.comparable) = some true := by kernel_rfl
theorem isSize : (Tryd.prog.info? 147).map (·.size) = some 1 := by kernel_rfl
theorem noIsE (v : Value) (xT : TypeId) (w : World) : (Instr.typeAssert (.iface 127 v) xT 100 true).run Tryd.prog w = .ok (.tuple #[.nilIface, .bool false]) w := run_typeAssert_lacksB Tryd.underlying100 (by kernel_rfl) (by kernel_rfl) v xT w
theorem noUnwrapE (v : Value) (xT : TypeId) (w : World) : (Instr.typeAssert (.iface 127 v) xT 103 true).run Tryd.prog w = .ok (.tuple #[.nilIface, .bool false]) w := run_typeAssert_lacksB Tryd.underlying103 (by kernel_rfl) (by kernel_rfl) v xT w
theorem noUnwrapsE (v : Value) (xT : TypeId) (w : World) : (Instr.typeAssert (.iface 127 v) xT 104 true).run Tryd.prog w = .ok (.tuple #[.nilIface, .bool false]) w := run_typeAssert_lacksB Tryd.underlying104 (by kernel_rfl) (by kernel_rfl) v xT w

/-- errors.Is(x, x), x of errors.New's make -/
theorem is_same (a : Addr) (w : World) :
    Calls Tryd.prog 33 #[.iface 127 (.pointer (some a)), .iface 127 (.pointer (some a))] w fun e w' => e = .returned (.bool true) ∧ w = w' := by
  obtain ⟨i, hi, hcmp⟩ := Option.map_eq_some_iff.1 isComp
  obtain ⟨j, hj, hjs⟩ := Option.map_eq_some_iff.1 isSize
  have h8 := @run_callFunc_extern Tryd.prog 40 _ Extern.ReflectliteType.typeOf Tryd.func40 (by kernel_rfl) (by kernel_rfl) (by kernel_rfl) (by kernel_rfl)
  have tT := isTypeOf
  have cT := isComparable
  have mR := isMethodComparable
  have heq := run_eql_iface_ptr_same (P := Tryd.prog) w a Tryd.underlying29 Tryd.underlying127 hi hcmp hj
  go_enter Tryd.func33, Tryd.ntmps33
  go_wp2
  refine wp_loop_rounds 1 ?_
  rw [rounds_succ]
  go_wp2
  go_ret
  exact ⟨rfl, rfl⟩

/-- errors.Is(nil, x) -/
theorem is_nil (b : Addr) (w : World) :
    Calls Tryd.prog 33 #[.nilIface, .iface 127 (.pointer (some b))] w fun e w' => e = .returned (.bool false) ∧ w = w' := by
  have hn := run_eql_iface_nil_left (P := Tryd.prog) w 127 (.pointer (some b)) Tryd.underlying29
  go_enter Tryd.func33, Tryd.ntmps33
  go_wp2
  go_ret
  exact ⟨rfl, rfl⟩

/-- errors.Is(x, y), two different values of errors.New's make: false -/
theorem is_other (a b : Addr) (w : World) (hne : a ≠ b) (ha : ∃ c t, w.heap[a.block]? = some (.cells c t (0, 0))) (hb : ∃ c t, w.heap[b.block]? = some (.cells c t (0, 0))) :
    Calls Tryd.prog 33 #[.iface 127 (.pointer (some a)), .iface 127 (.pointer (some b))] w fun e w' => e = .returned (.bool false) ∧ w = w' := by
  obtain ⟨ca, ta, ha⟩ := ha
  obtain ⟨cb, tb, hb⟩ := hb
  obtain ⟨i, hi, hcmp⟩ := Option.map_eq_some_iff.1 isComp
  obtain ⟨j, hj, hjs⟩ := Option.map_eq_some_iff.1 isSize
  have h8 := @run_callFunc_extern Tryd.prog 40 _ Extern.ReflectliteType.typeOf Tryd.func40 (by kernel_rfl) (by kernel_rfl) (by kernel_rfl) (by kernel_rfl)
  have tT := isTypeOf
  have cT := isComparable
  have mR := isMethodComparable
  have nE := noIsE
  have uE := noUnwrapE
  have vE := noUnwrapsE
  have heq := run_eql_iface_ptr_other (P := Tryd.prog) w Tryd.underlying29 Tryd.underlying127 hi hcmp hj (by rw [hjs]; decide) hne ha hb
  go_enter Tryd.func33, Tryd.ntmps33
  go_wp2
  refine wp_loop_rounds 1 ?_
  rw [rounds_succ]
  go_wp2
  go_ret
  exact ⟨rfl, rfl⟩

/-- the errors, in the order of their numbers: name, number in the translation, text's place in the row -/
def names : List (String × Nat) := [("bailee/api.ErrRange", 0), ("bailee/api.ErrShort", 1), ("bailee/api.ErrLong", 2), ("bailee/api.ErrForm", 3), ("bailee/api.ErrSum", 4), ("bailee/api.ErrName", 5), ("bailee/api.ErrKind", 6), ("bailee/api.ErrSize", 7), ("bailee/api.ErrKey", 8), ("bailee/api.ErrDup", 9), ("bailee/api.ErrNone", 10), ("bailee/api.ErrFull", 11), ("bailee/api.ErrState", 12), ("bailee/api.ErrPower", 13), ("bailee/api.ErrProof", 14), ("bailee/api.ErrSpare", 15), ("bailee/api.ErrLost", 16), ("bailee/api.ErrBudget", 17), ("bailee/api.ErrLate", 18), ("bailee/api.ErrZero", 19)]

/-- where the twenty sentinels lie: A i is number i + 1 -/
structure Errs (W : World) (A : Nat → Addr) : Prop where
  inj : ∀ i j, i < 20 → j < 20 → A i = A j → i = j
  c0 : W.cell? ⟨0, 0, none⟩ = some (.iface 127 (.pointer (some (A 0))))
  c1 : W.cell? ⟨1, 0, none⟩ = some (.iface 127 (.pointer (some (A 1))))
  c2 : W.cell? ⟨2, 0, none⟩ = some (.iface 127 (.pointer (some (A 2))))
  c3 : W.cell? ⟨3, 0, none⟩ = some (.iface 127 (.pointer (some (A 3))))
  c4 : W.cell? ⟨4, 0, none⟩ = some (.iface 127 (.pointer (some (A 4))))
  c5 : W.cell? ⟨5, 0, none⟩ = some (.iface 127 (.pointer (some (A 5))))
  c6 : W.cell? ⟨6, 0, none⟩ = some (.iface 127 (.pointer (some (A 6))))
  c7 : W.cell? ⟨7, 0, none⟩ = some (.iface 127 (.pointer (some (A 7))))
  c8 : W.cell? ⟨8, 0, none⟩ = some (.iface 127 (.pointer (some (A 8))))
  c9 : W.cell? ⟨9, 0, none⟩ = some (.iface 127 (.pointer (some (A 9))))
  c10 : W.cell? ⟨10, 0, none⟩ = some (.iface 127 (.pointer (some (A 10))))
  c11 : W.cell? ⟨11, 0, none⟩ = some (.iface 127 (.pointer (some (A 11))))
  c12 : W.cell? ⟨12, 0, none⟩ = some (.iface 127 (.pointer (some (A 12))))
  c13 : W.cell? ⟨13, 0, none⟩ = some (.iface 127 (.pointer (some (A 13))))
  c14 : W.cell? ⟨14, 0, none⟩ = some (.iface 127 (.pointer (some (A 14))))
  c15 : W.cell? ⟨15, 0, none⟩ = some (.iface 127 (.pointer (some (A 15))))
  c16 : W.cell? ⟨16, 0, none⟩ = some (.iface 127 (.pointer (some (A 16))))
  c17 : W.cell? ⟨17, 0, none⟩ = some (.iface 127 (.pointer (some (A 17))))
  c18 : W.cell? ⟨18, 0, none⟩ = some (.iface 127 (.pointer (some (A 18))))
  c19 : W.cell? ⟨19, 0, none⟩ = some (.iface 127 (.pointer (some (A 19))))
  block : ∀ i, i < 20 → ∃ c t, W.heap[(A i).block]? = some (.cells c t (0, 0))
/-- old memory untouched: the sentinels stay -/
theorem Errs.later {W W' : World} {A : Nat → Addr} (h : Errs W A) (hb : Below W.heap.size W W') : Errs W' A := by
  have k : ∀ (g : Nat) (v : Value), W.cell? ⟨g, 0, none⟩ = some v → W'.cell? ⟨g, 0, none⟩ = some v := by
    intro g v hc
    have hlt : g < W.heap.size := by
      unfold World.cell? at hc
      cases hh : W.heap[g]? with
      | none => simp [hh] at hc
      | some o => exact (Array.getElem?_eq_some_iff.1 hh).1
    rw [hb.cell (p := ⟨g, 0, none⟩) hlt]; exact hc
  refine ⟨h.inj, k _ _ h.c0, k _ _ h.c1, k _ _ h.c2, k _ _ h.c3, k _ _ h.c4, k _ _ h.c5, k _ _ h.c6, k _ _ h.c7, k _ _ h.c8, k _ _ h.c9, k _ _ h.c10, k _ _ h.c11, k _ _ h.c12, k _ _ h.c13, k _ _ h.c14, k _ _ h.c15, k _ _ h.c16, k _ _ h.c17, k _ _ h.c18, k _ _ h.c19, ?_⟩
  intro i hi
  obtain ⟨c, t, hh⟩ := h.block i hi
  have hlt : (A i).block < W.heap.size := (Array.getElem?_eq_some_iff.1 hh).1
  exact ⟨c, t, by rw [hb.block _ hlt]; exact hh⟩

/-- the sentinels of the first layers -/
structure Six (W : World) (A : Nat → Addr) : Prop where
  c0 : W.cell? ⟨0, 0, none⟩ = some (.iface 127 (.pointer (some (A 0))))
  c7 : W.cell? ⟨7, 0, none⟩ = some (.iface 127 (.pointer (some (A 7))))
  c9 : W.cell? ⟨9, 0, none⟩ = some (.iface 127 (.pointer (some (A 9))))
  c15 : W.cell? ⟨15, 0, none⟩ = some (.iface 127 (.pointer (some (A 15))))
  c16 : W.cell? ⟨16, 0, none⟩ = some (.iface 127 (.pointer (some (A 16))))
  c19 : W.cell? ⟨19, 0, none⟩ = some (.iface 127 (.pointer (some (A 19))))
theorem Six.later {W W' : World} {A : Nat → Addr} (h : Six W A) (hb : Below W.heap.size W W') : Six W' A := by
  have k : ∀ (g : Nat) (v : Value), W.cell? ⟨g, 0, none⟩ = some v → W'.cell? ⟨g, 0, none⟩ = some v := by
    intro g v hc
    have hlt : g < W.heap.size := by
      unfold World.cell? at hc
      cases hh : W.heap[g]? with
      | none => simp [hh] at hc
      | some o => exact (Array.getElem?_eq_some_iff.1 hh).1
    rw [hb.cell (p := ⟨g, 0, none⟩) hlt]; exact hc
  exact ⟨k _ _ h.c0, k _ _ h.c7, k _ _ h.c9, k _ _ h.c15, k _ _ h.c16, k _ _ h.c19⟩
theorem Errs.six {W : World} {A : Nat → Addr} (h : Errs W A) : Six W A := ⟨h.c0, h.c7, h.c9, h.c15, h.c16, h.c19⟩
instance {W : World} {A : Nat → Addr} : Coe (Errs W A) (Six W A) := ⟨Errs.six⟩
/-- Num(nil) -/
theorem num_nil (w : World) :
    Calls Tryd.prog 11 #[.nilIface] w fun e w' => e = .returned (.int .i64 0) ∧ w = w' := by
  go_enter Tryd.func11, Tryd.ntmps11
  go_wp2
  go_ret
  exact ⟨rfl, rfl⟩

def NumAt (w : World) (A : Nat → Addr) (k : Nat) (v : Value) (wr : World) : Prop :=
  ∃ (i : Nat) (C : Array Value), i ≤ k ∧ v = .int .i64 i ∧ (∀ j, j < 20 → C[j]? = some (.iface 127 (.pointer (some (A j))))) ∧ wr = w.alloc (.cells C 29)
/-- Num(x), x a value of package api: its number -/
theorem num_of (A : Nat → Addr) (k : Nat) (hk : k < 20) (w : World) (hE : Errs w A) :
    Calls Tryd.prog 11 #[.iface 127 (.pointer (some (A k)))] w fun e w' => e = .returned (.int .i64 (k + 1 : Nat)) ∧ Below w.heap.size w w' := by
  have HE := Lib.hid hE
  obtain ⟨inj, c0, c1, c2, c3, c4, c5, c6, c7, c8, c9, c10, c11, c12, c13, c14, c15, c16, c17, c18, c19, hbl⟩ := hE
  have HI := Lib.hid inj
  clear inj hbl
  go_enter Tryd.func11, Tryd.ntmps11
  go_wp2
  go_loopw [31] (fun v wr => NumAt w A k v wr) (fun v _ => 20 - (intOf v).toNat)
  case atStart =>
    refine ⟨0, _, by omega, rfl, ?_, rfl⟩
    intro j hj
    match j, hj with
    | 0, _ | 1, _ | 2, _ | 3, _ | 4, _ | 5, _ | 6, _ | 7, _ | 8, _ | 9, _ | 10, _ | 11, _ | 12, _ | 13, _ | 14, _ | 15, _ | 16, _ | 17, _ | 18, _ | 19, _ => rfl
    | n + 20, h => omega
  case round =>
    clear c0 c1 c2 c3 c4 c5 c6 c7 c8 c9 c10 c11 c12 c13 c14 c15 c16 c17 c18 c19
    obtain ⟨i, C, hi, rfl, hC, rfl⟩ := hrel
    have hCi := hC i (by omega)
    have HC := Lib.hid hC
    clear hC
    have hi20 : i < 20 := by omega
    have hE2 : Errs (w.alloc (.cells C 29)) A := HE.out.later ((Below.refl _ _).alloc (Nat.le_refl _) _)
    have hbi := hE2.block i hi20
    have hbk := hE2.block k hk
    have HBI := Lib.hid hbi
    have HBK := Lib.hid hbk
    clear hE2 hbi hbk
    by_cases h : i = k
    · subst h
      go_wp2_with (go_at_call 33; refine (is_same _ _).mono ?_; rintro e w' ⟨rfl, rfl⟩)
      go_ret
      exact ⟨by go_num, (Below.refl _ _).alloc (Nat.le_refl _) _⟩
    · have hne : A k ≠ A i := fun e => h (HI.out k i hk hi20 e).symm
      go_wp2_with (go_at_call 33; refine (is_other _ _ _ hne HBK.out HBI.out).mono ?_; rintro e w' ⟨rfl, rfl⟩)
      go_roundw
      case rel => exact ⟨i + 1, C, by omega, by go_num, HC.out, rfl⟩
      case measure => simp [intOf]; omega
end Er
end Go.Proofs.YtomkkkbdipcjgaaDoor
