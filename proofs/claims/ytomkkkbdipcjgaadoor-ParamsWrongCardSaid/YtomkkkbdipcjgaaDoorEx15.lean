/- errors.Is over params.Wrong, which wraps a value of package api; its number. errors.As at a variable of type *params.Wrong: nil, a Wrong, a value of package api. -/
import Derived.Test.YtomkkkbdipcjgaaDoorErr
import Derived.WalkKit
namespace Go.Proofs.YtomkkkbdipcjgaaDoor
open Go.RowKit Go.Extern.Stop Go.Stop Go.Extern
set_option linter.unusedVariables false
set_option linter.unusedSimpArgs false
namespace Er
theorem noIsW (v : Value) (xT : TypeId) (w : World) : (Instr.typeAssert (.iface 56 v) xT 100 true).run Tryd.prog w = .ok (.tuple #[.nilIface, .bool false]) w := run_typeAssert_lacksB Tryd.underlying100 (by kernel_rfl) (by kernel_rfl) v xT w
theorem hasUnwrapW (v : Value) (xT : TypeId) (w : World) : (Instr.typeAssert (.iface 56 v) xT 103 true).run Tryd.prog w = .ok (.tuple #[.iface 56 v, .bool true]) w := run_typeAssert_hasB Tryd.underlying103 (by kernel_rfl) v xT w
theorem mUnwrapW (v : Value) (w : World) : (Go.method 259 56 v "Unwrap").run Tryd.prog w = .ok (29, v) w := by kernel_rfl
/-- what Unwrap answers -/
def UnwrapOk : Prop := ∀ (W : World) (a : Addr) (v : Value), W.cell? ⟨a.block, a.off + 2, none⟩ = some v → a.spot = none → Calls Tryd.prog 29 #[.pointer (some a)] W fun e w' => e = .returned v ∧ W = w'
theorem unwrap_any : UnwrapOk := by
  intro W a v hc hs
  obtain ⟨b, off, sp⟩ := a
  dsimp only at hs hc
  subst hs
  go_enter Tryd.func29, Tryd.ntmps29
  go_wp2
  go_ret
  exact ⟨rfl, rfl⟩
theorem isF_leaf (x y : Addr) (w : World) (hx : ∃ c t, w.heap[x.block]? = some (.cells c t (0, 0))) (hy : ∃ c t, w.heap[y.block]? = some (.cells c t (0, 0))) :
    Calls Tryd.prog 41 #[.iface 127 (.pointer (some x)), .iface 127 (.pointer (some y)), .bool true] w fun e w' => e = .returned (.bool (decide (x = y))) ∧ w = w' := by
  obtain ⟨ca, ta, hx⟩ := hx
  obtain ⟨cb, tb, hy⟩ := hy
  obtain ⟨i, hi, hcmp⟩ := Option.map_eq_some_iff.1 isComp
  obtain ⟨j, hj, hjs⟩ := Option.map_eq_some_iff.1 isSize
  have nE := noIsE
  have uE := noUnwrapE
  have vE := noUnwrapsE
  by_cases hxy : x = y
  · subst hxy
    have heq := run_eql_iface_ptr_same (P := Tryd.prog) w x Tryd.underlying29 Tryd.underlying127 hi hcmp hj
    go_enter Tryd.func41, Tryd.ntmps41
    go_wp2_with fail
    refine wp_loop_rounds 1 ?_
    rw [rounds_succ]
    go_wp2_with fail
    go_ret
    exact ⟨by simp, rfl⟩
  · have heq := run_eql_iface_ptr_other (P := Tryd.prog) w Tryd.underlying29 Tryd.underlying127 hi hcmp hj (by rw [hjs]; decide) hxy hx hy
    go_enter Tryd.func41, Tryd.ntmps41
    go_wp2_with fail
    refine wp_loop_rounds 1 ?_
    rw [rounds_succ]
    go_wp2_with fail
    go_ret
    exact ⟨by simp [hxy], rfl⟩
set_option maxHeartbeats 4000000 in
theorem isF_one (U : UnwrapOk) (b : Nat) (x y : Addr) (w : World) (hc : w.cell? ⟨b, 2, none⟩ = some (.iface 127 (.pointer (some x)))) (hx : ∃ c t, w.heap[x.block]? = some (.cells c t (0, 0))) (hy : ∃ c t, w.heap[y.block]? = some (.cells c t (0, 0))) :
    Calls Tryd.prog 41 #[.iface 56 (.pointer (some ⟨b, 0, none⟩)), .iface 127 (.pointer (some y)), .bool true] w fun e w' => e = .returned (.bool (decide (x = y))) ∧ w = w' := by
  obtain ⟨ca, ta, hx⟩ := hx
  obtain ⟨cb, tb, hy⟩ := hy
  obtain ⟨i, hi, hcmp⟩ := Option.map_eq_some_iff.1 isComp
  obtain ⟨j, hj, hjs⟩ := Option.map_eq_some_iff.1 isSize
  have nE := noIsE
  have uE := noUnwrapE
  have vE := noUnwrapsE
  have nW := noIsW
  have uW := hasUnwrapW
  have mW := mUnwrapW
  have heqW := fun v u => run_eql_iface_types (P := Tryd.prog) (ti := 29) 56 127 v u Tryd.underlying29 (by decide) w
  have HU := Lib.hid (U w ⟨b, 0, none⟩ _ hc rfl)
  clear U hc
  by_cases hxy : x = y
  · subst hxy
    have heq := run_eql_iface_ptr_same (P := Tryd.prog) w x Tryd.underlying29 Tryd.underlying127 hi hcmp hj
    go_enter Tryd.func41, Tryd.ntmps41
    go_wp2_with fail
    refine wp_loop_rounds 2 ?_
    rw [rounds_succ]
    go_wp2_with fail
    refine HU.out.mono ?_
    rintro e w1 ⟨rfl, rfl⟩
    go_wp2_with fail
    rw [rounds_succ]
    go_wp2_with fail
    go_ret
    exact ⟨by simp, rfl⟩
  · have heq := run_eql_iface_ptr_other (P := Tryd.prog) w Tryd.underlying29 Tryd.underlying127 hi hcmp hj (by rw [hjs]; decide) hxy hx hy
    go_enter Tryd.func41, Tryd.ntmps41
    go_wp2_with fail
    refine wp_loop_rounds 2 ?_
    rw [rounds_succ]
    go_wp2_with fail
    refine HU.out.mono ?_
    rintro e w1 ⟨rfl, rfl⟩
    go_wp2_with fail
    rw [rounds_succ]
    go_wp2_with fail
    go_ret
    exact ⟨by simp [hxy], rfl⟩
set_option maxHeartbeats 4000000 in
theorem isF_two (U : UnwrapOk) (b b1 : Nat) (x y : Addr) (w : World) (hc1 : w.cell? ⟨b, 2, none⟩ = some (.iface 56 (.pointer (some ⟨b1, 0, none⟩)))) (hc : w.cell? ⟨b1, 2, none⟩ = some (.iface 127 (.pointer (some x)))) (hx : ∃ c t, w.heap[x.block]? = some (.cells c t (0, 0))) (hy : ∃ c t, w.heap[y.block]? = some (.cells c t (0, 0))) :
    Calls Tryd.prog 41 #[.iface 56 (.pointer (some ⟨b, 0, none⟩)), .iface 127 (.pointer (some y)), .bool true] w fun e w' => e = .returned (.bool (decide (x = y))) ∧ w = w' := by
  obtain ⟨ca, ta, hx⟩ := hx
  obtain ⟨cb, tb, hy⟩ := hy
  obtain ⟨i, hi, hcmp⟩ := Option.map_eq_some_iff.1 isComp
  obtain ⟨j, hj, hjs⟩ := Option.map_eq_some_iff.1 isSize
  have nE := noIsE
  have uE := noUnwrapE
  have vE := noUnwrapsE
  have nW := noIsW
  have uW := hasUnwrapW
  have mW := mUnwrapW
  have heqW := fun v u => run_eql_iface_types (P := Tryd.prog) (ti := 29) 56 127 v u Tryd.underlying29 (by decide) w
  have HU1 := Lib.hid (U w ⟨b, 0, none⟩ _ hc1 rfl)
  have HU := Lib.hid (U w ⟨b1, 0, none⟩ _ hc rfl)
  clear U hc hc1
  by_cases hxy : x = y
  · subst hxy
    have heq := run_eql_iface_ptr_same (P := Tryd.prog) w x Tryd.underlying29 Tryd.underlying127 hi hcmp hj
    go_enter Tryd.func41, Tryd.ntmps41
    go_wp2_with fail
    refine wp_loop_rounds 3 ?_
    rw [rounds_succ]
    go_wp2_with fail
    refine HU1.out.mono ?_
    rintro e w1 ⟨rfl, rfl⟩
    go_wp2_with fail
    rw [rounds_succ]
    go_wp2_with fail
    refine HU.out.mono ?_
    rintro e w1 ⟨rfl, rfl⟩
    go_wp2_with fail
    rw [rounds_succ]
    go_wp2_with fail
    go_ret
    exact ⟨by simp, rfl⟩
  · have heq := run_eql_iface_ptr_other (P := Tryd.prog) w Tryd.underlying29 Tryd.underlying127 hi hcmp hj (by rw [hjs]; decide) hxy hx hy
    go_enter Tryd.func41, Tryd.ntmps41
    go_wp2_with fail
    refine wp_loop_rounds 3 ?_
    rw [rounds_succ]
    go_wp2_with fail
    refine HU1.out.mono ?_
    rintro e w1 ⟨rfl, rfl⟩
    go_wp2_with fail
    rw [rounds_succ]
    go_wp2_with fail
    refine HU.out.mono ?_
    rintro e w1 ⟨rfl, rfl⟩
    go_wp2_with fail
    rw [rounds_succ]
    go_wp2_with fail
    go_ret
    exact ⟨by simp [hxy], rfl⟩
/-- errors.Is off errors.is -/
theorem is_of (T : TypeId) (v : Value) (y : Addr) (r : Bool) (w : World)
    (h : Calls Tryd.prog 41 #[.iface T v, .iface 127 (.pointer (some y)), .bool true] w fun e w' => e = .returned (.bool r) ∧ w = w') :
    Calls Tryd.prog 33 #[.iface T v, .iface 127 (.pointer (some y))] w fun e w' => e = .returned (.bool r) ∧ w = w' := by
  have h8 := @run_callFunc_extern Tryd.prog 40 _ Extern.ReflectliteType.typeOf Tryd.func40 (by kernel_rfl) (by kernel_rfl) (by kernel_rfl) (by kernel_rfl)
  have tT := isTypeOf
  have cT := isComparable
  have mR := isMethodComparable
  have H := Lib.hid h
  clear h
  go_enter Tryd.func33, Tryd.ntmps33
  go_wp2_with fail
  refine H.out.mono ?_
  rintro e w1 ⟨rfl, rfl⟩
  go_wp2_with fail
  go_ret
  exact ⟨rfl, rfl⟩
/-- Num of an error that is the k-th of package api's values -/
theorem num_by (A : Nat → Addr) (k : Nat) (hk : k < 20) (T : TypeId) (v : Value) (w : World) (hE : Errs w A)
    (hI : ∀ w' j, Below w.heap.size w w' → j < 20 → Calls Tryd.prog 33 #[.iface T v, .iface 127 (.pointer (some (A j)))] w' fun e u => e = .returned (.bool (decide (k = j))) ∧ w' = u) :
    Calls Tryd.prog 11 #[.iface T v] w fun e w' => e = .returned (.int .i64 (k + 1 : Nat)) ∧ Below w.heap.size w w' := by
  have HE := Lib.hid hE
  have HI := Lib.hid hI
  obtain ⟨inj, c0, c1, c2, c3, c4, c5, c6, c7, c8, c9, c10, c11, c12, c13, c14, c15, c16, c17, c18, c19, hbl⟩ := hE
  clear inj hbl hI
  go_enter Tryd.func11, Tryd.ntmps11
  go_wp2
  go_loopw [31] (fun v wr => NumAt w A k v wr) (fun v _ => 20 - (intOf v).toNat)
  case atStart =>
    refine ⟨0, _, by omega, rfl, ?_, rfl⟩
    intro j hj
    match j, hj with
    | 0, _ | 1, _ | 2, _ | 3, _ | 4, _ | 5, _ | 6, _ | 7, _ | 8, _ | 9, _ | 10, _ | 11, _ | 12, _ | 13, _ | 14, _ | 15, _ | 16, _ | 17, _ | 18, _ | 19, _ => rfl
    | n + 20, h => omega
  case round =>
    clear c0 c1 c2 c3 c4 c5 c6 c7 c8 c9 c10 c11 c12 c13 c14 c15 c16 c17 c18 c19
    obtain ⟨i, C, hi, rfl, hC, rfl⟩ := hrel
    have hCi := hC i (by omega)
    have HC := Lib.hid hC
    clear hC
    have hi20 : i < 20 := by omega
    have HII := Lib.hid (HI.out (w.alloc (.cells C 29)) i ((Below.refl _ _).alloc (Nat.le_refl _) _) hi20)
    by_cases h : i = k
    · subst h
      have H1 := Lib.hid (HII.out.mono fun e u q => (show e = .returned (.bool true) ∧ w.alloc (.cells C 29) = u from ⟨by rw [q.1]; simp, q.2⟩))
      clear HII
      go_wp2_with (go_at_call 33; refine H1.out.mono ?_; rintro e w' ⟨rfl, rfl⟩)
      go_ret
      exact ⟨by go_num, (Below.refl _ _).alloc (Nat.le_refl _) _⟩
    · have H1 := Lib.hid (HII.out.mono fun e u q => (show e = .returned (.bool false) ∧ w.alloc (.cells C 29) = u from ⟨by rw [q.1]; simp; omega, q.2⟩))
      clear HII
      go_wp2_with (go_at_call 33; refine H1.out.mono ?_; rintro e w' ⟨rfl, rfl⟩)
      go_roundw
      case rel => exact ⟨i + 1, C, by omega, by go_num, HC.out, rfl⟩
      case measure => simp [intOf]; omega
theorem Errs.inj_iff {W : World} {A : Nat → Addr} (h : Errs W A) {k j : Nat} (hk : k < 20) (hj : j < 20) : decide (A k = A j) = decide (k = j) := by
  by_cases e : k = j
  · subst e; simp
  · have : ¬ A k = A j := fun e2 => e (h.inj k j hk hj e2)
    simp [e, this]
theorem below_cell2 {w w' : World} {b : Nat} {v : Value} (h : w.cell? ⟨b, 2, none⟩ = some v) (hb : Below w.heap.size w w') : w'.cell? ⟨b, 2, none⟩ = some v := by
  have hlt : b < w.heap.size := by
    unfold World.cell? at h
    cases hh : w.heap[b]? with
    | none => simp [hh] at h
    | some o => exact (Array.getElem?_eq_some_iff.1 hh).1
  rw [hb.cell (p := ⟨b, 2, none⟩) hlt]; exact h
/-- the number of a Wrong -/
theorem num_wrong (U : UnwrapOk) (A : Nat → Addr) (k : Nat) (hk : k < 20) (b : Nat) (w : World) (hE : Errs w A) (hc : w.cell? ⟨b, 2, none⟩ = some (.iface 127 (.pointer (some (A k))))) :
    Calls Tryd.prog 11 #[.iface 56 (.pointer (some ⟨b, 0, none⟩))] w fun e w' => e = .returned (.int .i64 (k + 1 : Nat)) ∧ Below w.heap.size w w' := by
  refine num_by A k hk _ _ w hE fun w' j hb hj => ?_
  have hE2 := hE.later hb
  have h := is_of 56 _ (A j) _ w' (isF_one U b (A k) (A j) w' (below_cell2 hc hb) (hE2.block k hk) (hE2.block j hj))
  rw [hE2.inj_iff hk hj] at h
  exact h
theorem num_wrong2 (U : UnwrapOk) (A : Nat → Addr) (k : Nat) (hk : k < 20) (b b1 : Nat) (w : World) (hE : Errs w A) (hc1 : w.cell? ⟨b, 2, none⟩ = some (.iface 56 (.pointer (some ⟨b1, 0, none⟩)))) (hc : w.cell? ⟨b1, 2, none⟩ = some (.iface 127 (.pointer (some (A k))))) :
    Calls Tryd.prog 11 #[.iface 56 (.pointer (some ⟨b, 0, none⟩))] w fun e w' => e = .returned (.int .i64 (k + 1 : Nat)) ∧ Below w.heap.size w w' := by
  refine num_by A k hk _ _ w hE fun w' j hb hj => ?_
  have hE2 := hE.later hb
  have h := is_of 56 _ (A j) _ w' (isF_two U b b1 (A k) (A j) w' (below_cell2 hc1 hb) (below_cell2 hc hb) (hE2.block k hk) (hE2.block j hj))
  rw [hE2.inj_iff hk hj] at h
  exact h
end Er
end Go.Proofs.YtomkkkbdipcjgaaDoor
namespace Go.Proofs.YtomkkkbdipcjgaaDoor
open Go.RowKit Go.Extern.Stop Go.Stop Go.Extern
set_option linter.unusedVariables false
set_option linter.unusedSimpArgs false
namespace Er
theorem as_nil15 (t : Value) (w : World) : Calls Tryd.prog 39 #[.nilIface, t] w fun e w' => e = .returned (.bool false) ∧ w' = w := by
  go_enter Tryd.func39, Tryd.ntmps39
  go_wp2
  go_ret
  exact ⟨rfl, rfl⟩
theorem vlPP (t : Addr) (w : World) : (ReflectliteValue.unpack (.iface 79 (.pointer (some t)))).run Tryd.prog w
    = .ok (.agg #[.pointer (some ⟨25, 79, none⟩), .pointer (some ⟨w.heap.size, 0, none⟩), .int .u64 150]) (w.alloc (.cells #[.pointer (some t)] 79)) := by kernel_rfl
theorem tyPP (a : Addr) (w : World) : (ReflectliteValue.methodAny (ReflectliteValue.valueError "reflectlite.Value.Type" 0) (fun t _ _ _ => ReflectliteType.toType t) #[.agg #[.pointer (some ⟨25, 79, none⟩), .pointer (some a), .int .u64 150]]).run Tryd.prog w
    = .ok (.iface 98 (.agg #[.pointer (some ⟨25, 79, none⟩)])) w := by kernel_rfl
theorem mKind (h : Value) (w : World) : (Go.method 259 98 (.agg #[h]) "Kind").run Tryd.prog w = .ok (78, h) w := by kernel_rfl
theorem kdPP (w : World) : ((ReflectliteType.abiMethod fun t => (fun a : Nat => Value.int IntKind.u8 (a : Int)) <$> Rtype.kind t) #[.pointer (some ⟨25, 79, none⟩)]).run Tryd.prog w = .ok (.int .u8 22) w := by kernel_rfl
theorem kdP (w : World) : ((ReflectliteType.abiMethod fun t => (fun a : Nat => Value.int IntKind.u8 (a : Int)) <$> Rtype.kind t) #[.pointer (some ⟨25, 56, none⟩)]).run Tryd.prog w = .ok (.int .u8 22) w := by kernel_rfl
theorem methodMatch (v : Value) (f : Value → Sem Value) (g : Array Value → Sem Value) : ReflectliteValue.method.match_2 (fun _ => Sem Value) #[v] f g = f v := rfl
theorem ptPP (a : Addr) (w : World) : (ReflectliteValue.parts (.agg #[.pointer (some ⟨25, 79, none⟩), .pointer (some a), .int .u64 150])).run Tryd.prog w = .ok (some (79, a, 150)) w := by kernel_rfl
theorem nilPP (a p : Addr) (W : World) (ha : W.cell? a = some (.pointer (some p))) :
    (ReflectliteValue.method (ReflectliteValue.valueError "reflectlite.Value.IsNil" 0) ReflectliteValue.isNil #[.agg #[.pointer (some ⟨25, 79, none⟩), .pointer (some a), .int .u64 150]]).run Tryd.prog W = .ok (.bool false) W := by
  delta ReflectliteValue.method
  rw [methodMatch]
  simp only [Sem.run_bind, ptPP, Result.andThen]
  simp [ReflectliteValue.isNil, loadVar, isAgg, underlying, Tryd.underlying79, ha, Result.andThen]
theorem mElem (h : Value) (w : World) : (Go.method 259 98 (.agg #[h]) "Elem").run Tryd.prog w = .ok (87, .agg #[h]) w := by kernel_rfl
theorem mImpl (h : Value) (w : World) : (Go.method 259 98 (.agg #[h]) "Implements").run Tryd.prog w = .ok (88, .agg #[h]) w := by kernel_rfl
theorem mAssign (h : Value) (w : World) : (Go.method 259 98 (.agg #[h]) "AssignableTo").run Tryd.prog w = .ok (85, .agg #[h]) w := by kernel_rfl
theorem elPP (w : World) : (ReflectliteType.method ReflectliteType.elem #[.agg #[.pointer (some ⟨25, 79, none⟩)]]).run Tryd.prog w = .ok (.iface 98 (.agg #[.pointer (some ⟨25, 56, none⟩)])) w := by kernel_rfl
theorem imP (w : World) : (ReflectliteType.relation "Implements" ReflectliteType.implements_ #[.agg #[.pointer (some ⟨25, 56, none⟩)], .iface 98 (.agg #[.pointer (some ⟨25, 29, none⟩)])]).run Tryd.prog w = .ok (.bool true) w := by kernel_rfl
theorem toP (v : Value) (w : World) : (ReflectliteType.typeOf #[.iface 56 v]).run Tryd.prog w = .ok (.iface 98 (.agg #[.pointer (some ⟨25, 56, none⟩)])) w := by kernel_rfl
theorem asP (w : World) : (ReflectliteType.relation "AssignableTo" ReflectliteType.assignableTo #[.agg #[.pointer (some ⟨25, 56, none⟩)], .iface 98 (.agg #[.pointer (some ⟨25, 56, none⟩)])]).run Tryd.prog w = .ok (.bool true) w := by kernel_rfl
theorem asE (w : World) : (ReflectliteType.relation "AssignableTo" ReflectliteType.assignableTo #[.agg #[.pointer (some ⟨25, 127, none⟩)], .iface 98 (.agg #[.pointer (some ⟨25, 56, none⟩)])]).run Tryd.prog w = .ok (.bool false) w := by kernel_rfl
theorem noAsE (v : Value) (xT : TypeId) (w : World) : (Instr.typeAssert (.iface 127 v) xT 110 true).run Tryd.prog w = .ok (.tuple #[.nilIface, .bool false]) w := run_typeAssert_lacksB Tryd.underlying110 (by kernel_rfl) (by kernel_rfl) v xT w
theorem vlP (e : Addr) (w : World) : (ReflectliteValue.unpack (.iface 56 (.pointer (some e)))).run Tryd.prog w
    = .ok (.agg #[.pointer (some ⟨25, 56, none⟩), .pointer (some ⟨w.heap.size, 0, none⟩), .int .u64 150]) (w.alloc (.cells #[.pointer (some e)] 56)) := by kernel_rfl
theorem eoPP (w : World) : (Rtype.elem? 79).run Tryd.prog w = .ok (some 56) w := by kernel_rfl
theorem mkP (p : Addr) (w : World) : (ReflectliteValue.mk 56 p ReflectliteValue.flagAddr).run Tryd.prog w = .ok (.agg #[.pointer (some ⟨25, 56, none⟩), .pointer (some p), .int .u64 406]) w := by kernel_rfl
theorem evPP (a p : Addr) (W : World) (ha : W.cell? a = some (.pointer (some p))) :
    (ReflectliteValue.method (ReflectliteValue.valueError "reflectlite.Value.Elem" 0) ReflectliteValue.elem #[.agg #[.pointer (some ⟨25, 79, none⟩), .pointer (some a), .int .u64 150]]).run Tryd.prog W
      = .ok (.agg #[.pointer (some ⟨25, 56, none⟩), .pointer (some p), .int .u64 406]) W := by
  delta ReflectliteValue.method
  rw [methodMatch]
  simp only [Sem.run_bind, ptPP, Result.andThen]
  simp [ReflectliteValue.elem, loadVar, isAgg, underlying, Tryd.underlying79, ha, Result.andThen, eoPP, mkP]
theorem ptPa (a : Addr) (w : World) : (ReflectliteValue.parts (.agg #[.pointer (some ⟨25, 56, none⟩), .pointer (some a), .int .u64 406])).run Tryd.prog w = .ok (some (56, a, 406)) w := by kernel_rfl
theorem ptP (a : Addr) (w : World) : (ReflectliteValue.parts (.agg #[.pointer (some ⟨25, 56, none⟩), .pointer (some a), .int .u64 150])).run Tryd.prog w = .ok (some (56, a, 150)) w := by kernel_rfl
theorem daP (w : World) : (Rtype.directlyAssignable 56 56).run Tryd.prog w = .ok true w := by kernel_rfl
theorem setMatch (v x : Value) (f : Value → Value → Sem Value) (g : Array Value → Sem Value) : ReflectliteValue.set.match_3 (fun _ => Sem Value) #[v, x] f g = f v x := rfl
theorem setP (ta b e : Addr) (old : Value) (W : World) (hb : W.cell? b = some (.pointer (some e))) (ht : W.cell? ta = some old) (hf : W.frozen? ta = false) :
    (ReflectliteValue.set #[.agg #[.pointer (some ⟨25, 56, none⟩), .pointer (some ta), .int .u64 406], .agg #[.pointer (some ⟨25, 56, none⟩), .pointer (some b), .int .u64 150]]).run Tryd.prog W
      = .ok (.tuple #[]) (W.setCell ta (.pointer (some e))) := by
  delta ReflectliteValue.set
  rw [setMatch]
  simp only [Sem.run_bind, ptPa, ptP, Result.andThen]
  simp [ReflectliteValue.flagAddr, daP, loadVar, isAgg, underlying, Tryd.underlying56, hb, Result.andThen, storeVar, Value.cells, storeCells, Addr.add]
  rw [run_store Tryd.prog W ta _ _ (by rfl)]
  simp [ht, hf]
/-- what the package-level variable errors.errorType holds -/
def EType (W : World) : Prop := W.cell? ⟨21, 0, none⟩ = some (.iface 98 (.agg #[.pointer (some ⟨25, 29, none⟩)]))
theorem EType.lt {W : World} (h : EType W) : 21 < W.heap.size := by
  unfold EType World.cell? at h
  cases hh : W.heap[21]? with
  | none => simp [hh] at h
  | some o => exact (Array.getElem?_eq_some_iff.1 hh).1
theorem EType.later {W W' : World} (h : EType W) (hb : Below W.heap.size W W') : EType W' := by
  have hlt := h.lt
  unfold EType at h ⊢
  rw [hb.cell (p := ⟨21, 0, none⟩) hlt]; exact h
set_option maxHeartbeats 4000000 in
/-- errors.As(w, &v), w a Wrong: v holds it -/
theorem as_hit15 (e t : Addr) (old : Value) (w : World) (hg : EType w) (ht0 : w.cell? t = some old) (hf0 : w.frozen? t = false) (hts : t.spot = none) :
    Calls Tryd.prog 39 #[.iface 56 (.pointer (some e)), .iface 79 (.pointer (some t))] w fun ev w' => ev = .returned (.bool true) ∧ ∃ w1, Below w.heap.size w w1 ∧ w' = w1.setCell t (.pointer (some e)) := by
  have h6 := @run_callFunc_extern Tryd.prog 45 _ (fun args => ReflectliteValue.unpack (args.getD 0 (.tuple #[]))) Tryd.func45 (by kernel_rfl) (by kernel_rfl) (by kernel_rfl) (by kernel_rfl)
  have h7 := @run_callFunc_extern Tryd.prog 46 _ (ReflectliteValue.methodAny (ReflectliteValue.valueError "reflectlite.Value.Type" 0) (fun t _ _ _ => ReflectliteType.toType t)) Tryd.func46 (by kernel_rfl) (by kernel_rfl) (by kernel_rfl) (by kernel_rfl)
  have h8 := @run_callFunc_extern Tryd.prog 47 _ (ReflectliteValue.method (ReflectliteValue.valueError "reflectlite.Value.IsNil" 0) ReflectliteValue.isNil) Tryd.func47 (by kernel_rfl) (by kernel_rfl) (by kernel_rfl) (by kernel_rfl)
  have h27 := @run_callFunc_extern Tryd.prog 78 _ (ReflectliteType.abiMethod fun t => do pure (.int .u8 (← Rtype.kind t))) Tryd.func78 (by kernel_rfl) (by kernel_rfl) (by kernel_rfl) (by kernel_rfl)
  have h37 := @run_callFunc_extern Tryd.prog 87 _ (ReflectliteType.method ReflectliteType.elem) Tryd.func87 (by kernel_rfl) (by kernel_rfl) (by kernel_rfl) (by kernel_rfl)
  have h38 := @run_callFunc_extern Tryd.prog 88 _ (ReflectliteType.relation "Implements" ReflectliteType.implements_) Tryd.func88 (by kernel_rfl) (by kernel_rfl) (by kernel_rfl) (by kernel_rfl)
  have h10 := @run_callFunc_extern Tryd.prog 40 _ ReflectliteType.typeOf Tryd.func40 (by kernel_rfl) (by kernel_rfl) (by kernel_rfl) (by kernel_rfl)
  have h35 := @run_callFunc_extern Tryd.prog 85 _ (ReflectliteType.relation "AssignableTo" ReflectliteType.assignableTo) Tryd.func85 (by kernel_rfl) (by kernel_rfl) (by kernel_rfl) (by kernel_rfl)
  have h11 := @run_callFunc_extern Tryd.prog 51 _ (ReflectliteValue.method (ReflectliteValue.valueError "reflectlite.Value.Elem" 0) ReflectliteValue.elem) Tryd.func51 (by kernel_rfl) (by kernel_rfl) (by kernel_rfl) (by kernel_rfl)
  have h12 := @run_callFunc_extern Tryd.prog 52 _ ReflectliteValue.set Tryd.func52 (by kernel_rfl) (by kernel_rfl) (by kernel_rfl) (by kernel_rfl)
  have tO := toP
  have mA := mAssign
  have a25 := asP
  have v25 := vlP
  have f6 := vlPP
  have f7 := tyPP
  have mK := mKind
  have mE := mElem
  have mI := mImpl
  have k27 := kdPP
  have k25 := kdP
  have e27 := elPP
  have i25 := imP
  have htl : t.block < w.heap.size := by
    rcases Nat.lt_or_ge t.block w.heap.size with h | h
    · exact h
    · simp [World.cell?, Array.getElem?_eq_none h] at ht0
  have al : ∀ (X : World) (o : Obj), Below X.heap.size X (X.alloc o) := fun X o => (Below.refl _ _).alloc (Nat.le_refl _) _
  have hb1 : Below w.heap.size w (w.alloc (.cells #[.pointer (some t)] 79)) := al _ _
  have hb2 : Below w.heap.size w ((w.alloc (.cells #[.pointer (some t)] 79)).alloc (.cells #[.pointer (some ⟨25, 79, none⟩), .pointer (some ⟨w.heap.size, 0, none⟩), .int .u64 150] 90)) := Kit.step hb1 (al _ _)
  have hb3 : Below w.heap.size w (((w.alloc (.cells #[.pointer (some t)] 79)).alloc (.cells #[.pointer (some ⟨25, 79, none⟩), .pointer (some ⟨w.heap.size, 0, none⟩), .int .u64 150] 90)).alloc (.cells #[.pointer (some ⟨25, 79, none⟩), .pointer (some ⟨w.heap.size, 0, none⟩), .int .u64 150] 90)) := Kit.step hb2 (al _ _)
  have n8 := nilPP ⟨w.heap.size, 0, none⟩ t ((w.alloc (.cells #[.pointer (some t)] 79)).alloc (.cells #[.pointer (some ⟨25, 79, none⟩), .pointer (some ⟨w.heap.size, 0, none⟩), .int .u64 150] 90)) (by simp)
  have hg2 : ((w.alloc (.cells #[.pointer (some t)] 79)).alloc (.cells #[.pointer (some ⟨25, 79, none⟩), .pointer (some ⟨w.heap.size, 0, none⟩), .int .u64 150] 90)).cell? ⟨21, 0, none⟩ = some (.iface 98 (.agg #[.pointer (some ⟨25, 29, none⟩)])) := hg.later hb2
  have el := evPP ⟨w.heap.size, 0, none⟩ t (((w.alloc (.cells #[.pointer (some t)] 79)).alloc (.cells #[.pointer (some ⟨25, 79, none⟩), .pointer (some ⟨w.heap.size, 0, none⟩), .int .u64 150] 90)).alloc (.cells #[.pointer (some ⟨25, 79, none⟩), .pointer (some ⟨w.heap.size, 0, none⟩), .int .u64 150] 90)) (by rw [World.cell?_alloc_lt _ _ ⟨w.heap.size, 0, none⟩ (by simp; omega)]; simp)
  have hb4 : Below w.heap.size w ((((w.alloc (.cells #[.pointer (some t)] 79)).alloc (.cells #[.pointer (some ⟨25, 79, none⟩), .pointer (some ⟨w.heap.size, 0, none⟩), .int .u64 150] 90)).alloc (.cells #[.pointer (some ⟨25, 79, none⟩), .pointer (some ⟨w.heap.size, 0, none⟩), .int .u64 150] 90)).alloc (.cells #[.pointer (some e)] 56)) := Kit.step hb3 (al _ _)
  have st := setP t ⟨w.heap.size + 1 + 1 + 1, 0, none⟩ e old ((((w.alloc (.cells #[.pointer (some t)] 79)).alloc (.cells #[.pointer (some ⟨25, 79, none⟩), .pointer (some ⟨w.heap.size, 0, none⟩), .int .u64 150] 90)).alloc (.cells #[.pointer (some ⟨25, 79, none⟩), .pointer (some ⟨w.heap.size, 0, none⟩), .int .u64 150] 90)).alloc (.cells #[.pointer (some e)] 56))
    (by rw [World.cell?_alloc_at _ _ _ _ (by simp)]; rfl)
    (by rw [hb4.cell htl]; exact ht0)
    (by rw [hb4.frozen htl]; exact hf0)
  have HB4 := Lib.hid hb4
  clear hg hb1 hb2 hb3 hb4 al
  go_enter Tryd.func39, Tryd.ntmps39
  go_wp2
  refine wp_loop_rounds 1 ?_
  rw [rounds_succ]
  go_wp2
  go_ret
  exact ⟨rfl, _, HB4.out, rfl⟩
set_option maxHeartbeats 4000000 in
/-- errors.As(x, &v), x of package api: no -/
theorem as_miss15 (e t : Addr) (old : Value) (w : World) (hg : EType w) (ht0 : w.cell? t = some old) (hf0 : w.frozen? t = false) (hts : t.spot = none) :
    Calls Tryd.prog 39 #[.iface 127 (.pointer (some e)), .iface 79 (.pointer (some t))] w fun ev w' => ev = .returned (.bool false) ∧ Below w.heap.size w w' := by
  have h6 := @run_callFunc_extern Tryd.prog 45 _ (fun args => ReflectliteValue.unpack (args.getD 0 (.tuple #[]))) Tryd.func45 (by kernel_rfl) (by kernel_rfl) (by kernel_rfl) (by kernel_rfl)
  have h7 := @run_callFunc_extern Tryd.prog 46 _ (ReflectliteValue.methodAny (ReflectliteValue.valueError "reflectlite.Value.Type" 0) (fun t _ _ _ => ReflectliteType.toType t)) Tryd.func46 (by kernel_rfl) (by kernel_rfl) (by kernel_rfl) (by kernel_rfl)
  have h8 := @run_callFunc_extern Tryd.prog 47 _ (ReflectliteValue.method (ReflectliteValue.valueError "reflectlite.Value.IsNil" 0) ReflectliteValue.isNil) Tryd.func47 (by kernel_rfl) (by kernel_rfl) (by kernel_rfl) (by kernel_rfl)
  have h27 := @run_callFunc_extern Tryd.prog 78 _ (ReflectliteType.abiMethod fun t => do pure (.int .u8 (← Rtype.kind t))) Tryd.func78 (by kernel_rfl) (by kernel_rfl) (by kernel_rfl) (by kernel_rfl)
  have h37 := @run_callFunc_extern Tryd.prog 87 _ (ReflectliteType.method ReflectliteType.elem) Tryd.func87 (by kernel_rfl) (by kernel_rfl) (by kernel_rfl) (by kernel_rfl)
  have h38 := @run_callFunc_extern Tryd.prog 88 _ (ReflectliteType.relation "Implements" ReflectliteType.implements_) Tryd.func88 (by kernel_rfl) (by kernel_rfl) (by kernel_rfl) (by kernel_rfl)
  have h10 := @run_callFunc_extern Tryd.prog 40 _ ReflectliteType.typeOf Tryd.func40 (by kernel_rfl) (by kernel_rfl) (by kernel_rfl) (by kernel_rfl)
  have h35 := @run_callFunc_extern Tryd.prog 85 _ (ReflectliteType.relation "AssignableTo" ReflectliteType.assignableTo) Tryd.func85 (by kernel_rfl) (by kernel_rfl) (by kernel_rfl) (by kernel_rfl)
  have h11 := @run_callFunc_extern Tryd.prog 51 _ (ReflectliteValue.method (ReflectliteValue.valueError "reflectlite.Value.Elem" 0) ReflectliteValue.elem) Tryd.func51 (by kernel_rfl) (by kernel_rfl) (by kernel_rfl) (by kernel_rfl)
  have h12 := @run_callFunc_extern Tryd.prog 52 _ ReflectliteValue.set Tryd.func52 (by kernel_rfl) (by kernel_rfl) (by kernel_rfl) (by kernel_rfl)
  have tO := toP
  have mA := mAssign
  have a25 := asP
  have v25 := vlP
  have f6 := vlPP
  have f7 := tyPP
  have mK := mKind
  have mE := mElem
  have mI := mImpl
  have k27 := kdPP
  have k25 := kdP
  have e27 := elPP
  have i25 := imP
  have htl : t.block < w.heap.size := by
    rcases Nat.lt_or_ge t.block w.heap.size with h | h
    · exact h
    · simp [World.cell?, Array.getElem?_eq_none h] at ht0
  have tE := isTypeOf
  have aE := asE
  have nE := noAsE
  have uE := noUnwrapE
  have vE := noUnwrapsE
  have al : ∀ (X : World) (o : Obj), Below X.heap.size X (X.alloc o) := fun X o => (Below.refl _ _).alloc (Nat.le_refl _) _
  have hb1 : Below w.heap.size w (w.alloc (.cells #[.pointer (some t)] 79)) := al _ _
  have hb2 : Below w.heap.size w ((w.alloc (.cells #[.pointer (some t)] 79)).alloc (.cells #[.pointer (some ⟨25, 79, none⟩), .pointer (some ⟨w.heap.size, 0, none⟩), .int .u64 150] 90)) := Kit.step hb1 (al _ _)
  have hb3 : Below w.heap.size w (((w.alloc (.cells #[.pointer (some t)] 79)).alloc (.cells #[.pointer (some ⟨25, 79, none⟩), .pointer (some ⟨w.heap.size, 0, none⟩), .int .u64 150] 90)).alloc (.cells #[.pointer (some ⟨25, 79, none⟩), .pointer (some ⟨w.heap.size, 0, none⟩), .int .u64 150] 90)) := Kit.step hb2 (al _ _)
  have n8 := nilPP ⟨w.heap.size, 0, none⟩ t ((w.alloc (.cells #[.pointer (some t)] 79)).alloc (.cells #[.pointer (some ⟨25, 79, none⟩), .pointer (some ⟨w.heap.size, 0, none⟩), .int .u64 150] 90)) (by simp)
  have hg2 : ((w.alloc (.cells #[.pointer (some t)] 79)).alloc (.cells #[.pointer (some ⟨25, 79, none⟩), .pointer (some ⟨w.heap.size, 0, none⟩), .int .u64 150] 90)).cell? ⟨21, 0, none⟩ = some (.iface 98 (.agg #[.pointer (some ⟨25, 29, none⟩)])) := hg.later hb2
  have el := evPP ⟨w.heap.size, 0, none⟩ t (((w.alloc (.cells #[.pointer (some t)] 79)).alloc (.cells #[.pointer (some ⟨25, 79, none⟩), .pointer (some ⟨w.heap.size, 0, none⟩), .int .u64 150] 90)).alloc (.cells #[.pointer (some ⟨25, 79, none⟩), .pointer (some ⟨w.heap.size, 0, none⟩), .int .u64 150] 90)) (by rw [World.cell?_alloc_lt _ _ ⟨w.heap.size, 0, none⟩ (by simp; omega)]; simp)
  have HB3 := Lib.hid hb3
  clear hg hb1 hb2 hb3 al
  go_enter Tryd.func39, Tryd.ntmps39
  go_wp2
  refine wp_loop_rounds 1 ?_
  rw [rounds_succ]
  go_wp2
  go_ret
  exact ⟨rfl, HB3.out⟩
end Er
end Go.Proofs.YtomkkkbdipcjgaaDoor
