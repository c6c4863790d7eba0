/- ParamsWrong: for every input the statement's Go function returns true and leaves its arguments as they were; the sentinel errors that its row lists are as the program lays them. -/
import Derived.Test.YtomkkkbdipcjgaaDoorKit
import Derived.Test.YtomkkkbdipcjgaaDoorPw15
import Derived.Test.YtomkkkbdipcjgaaDoorCg15
import Derived.Test.YtomkkkbdipcjgaaDoorOp15
import Derived.Test.YtomkkkbdipcjgaaDoorVr2
import Derived.Test.YtomkkkbdipcjgaaDoorCards
import Derived.Test.YtomkkkbdipcjgaaDoorTie
namespace Go.Proofs.YtomkkkbdipcjgaaDoor.paramsWrong
open Go.ChangeShapes Go.WideShapes Go.ChangeAt Go.RowKit
set_option linter.unusedVariables false
theorem own : ownKnob Tryd.prog.godebug = none := by kernel_rfl
theorem laidOut : laidOutB Tryd.prog = true := by kernel_rfl
theorem fine : (Tryd.f6.params.toList.all fun t => Tryd.prog.readableRec t && decide (t < Tryd.prog.types.size)) = true := by kernel_rfl
theorem met {W : World} (h : laidMetH Tryd.prog Rows.paramsWrongRow.laid W) : laidMet Tryd.prog (Rows.paramsWrongRow.laid.filter fun x => x.2.handleName?.isNone) W :=
  (show laidMet Tryd.prog (Rows.paramsWrongRow.laid.filter fun x => x.2.handleName?.isNone) W ∧ handlesMet Tryd.prog (Rows.paramsWrongRow.laid.filter fun x => x.2.handleName?.isSome) W from h).1
theorem hd_et : Tryd.prog.globalNamed "errors.errorType" = some 21 := by kernel_rfl
theorem hd_rt : (Tryd.prog.cutTypes.find? (·.1 == "internal/reflectlite.rtype")).map (·.2) = some 98 := by kernel_rfl
theorem hd_size : Tryd.prog.types.size = 159 := by kernel_rfl
theorem hd_row : ((List.range 159).filter fun t => Tryd.prog.rowNamed t [101, 114, 114, 111, 114]) = [29] := by kernel_rfl
theorem etype {W : World} (h : laidMetH Tryd.prog Rows.paramsWrongRow.laid W) : Er.EType W := by
  have h' : handlesMet Tryd.prog (Rows.paramsWrongRow.laid.filter fun x => x.2.handleName?.isSome) W := (show laidMet Tryd.prog (Rows.paramsWrongRow.laid.filter fun x => x.2.handleName?.isNone) W ∧ handlesMet Tryd.prog (Rows.paramsWrongRow.laid.filter fun x => x.2.handleName?.isSome) W from h).2
  obtain ⟨name, u, ty, e1, e2, e3, e4, e5⟩ := h' _ (List.mem_singleton.2 rfl)
  have en : name = [101, 114, 114, 111, 114] := (Option.some.inj e1).symm
  subst en
  obtain rfl := Option.some.inj (hd_rt.symm.trans e2)
  have hm : ty ∈ (List.range 159).filter fun t => Tryd.prog.rowNamed t [101, 114, 114, 111, 114] := List.mem_filter.2 ⟨List.mem_range.2 (by rw [← hd_size]; exact e3), e4⟩
  rw [hd_row] at hm
  obtain rfl := List.mem_singleton.1 hm
  have hh : typeHandle Tryd.prog 29 = .pointer (some ⟨25, 29, none⟩) := by kernel_rfl
  rw [hh] at e5
  have := World.var?_cell hd_et e5 0
  unfold Er.EType
  simpa using this
theorem tab_strconv_uint64pow10 {W : World} (h : laidMetH Tryd.prog Rows.paramsWrongRow.laid W) : Lib.TabIs Tryd.prog W "internal/strconv.uint64pow10" .u64 [1, 10, 100, 1000, 10000, 100000, 1000000, 10000000, 100000000, 1000000000, 10000000000, 100000000000, 1000000000000, 10000000000000, 100000000000000, 1000000000000000, 10000000000000000, 100000000000000000, 1000000000000000000, 10000000000000000000] :=
  tab_of_laid (met h) "internal/strconv.uint64pow10" .u64 [1, 10, 100, 1000, 10000, 100000, 1000000, 10000000, 100000000, 1000000000, 10000000000, 100000000000, 1000000000000, 10000000000000, 100000000000000, 1000000000000000, 10000000000000000, 100000000000000000, 1000000000000000000, 10000000000000000000] (List.mem_of_getElem? (i := 2) (by kernel_rfl)) 22 120 114 20 (by kernel_rfl) (by kernel_rfl) Tryd.underlying120 Tryd.underlying114 (by kernel_rfl) (by kernel_rfl)
def laidList : List (String × Nat × List UInt8) := [("bailee/api.ErrRange", 0, [97, 32, 110, 117, 109, 98, 101, 114, 32, 105, 115, 32, 111, 117, 116, 32, 111, 102, 32, 105, 116, 115, 32, 114, 97, 110, 103, 101]), ("bailee/api.ErrShort", 1, [115, 111, 109, 101, 116, 104, 105, 110, 103, 32, 105, 115, 32, 109, 105, 115, 115, 105, 110, 103, 32, 97, 116, 32, 116, 104, 101, 32, 101, 110, 100]), ("bailee/api.ErrLong", 2, [116, 104, 101, 114, 101, 32, 105, 115, 32, 109, 111, 114, 101, 32, 116, 104, 97, 110, 32, 109, 97, 121, 32, 98, 101]), ("bailee/api.ErrForm", 3, [105, 116, 32, 105, 115, 32, 110, 111, 116, 32, 111, 102, 32, 105, 116, 115, 32, 102, 111, 114, 109]), ("bailee/api.ErrSum", 4, [116, 104, 101, 32, 100, 105, 103, 101, 115, 116, 32, 105, 115, 32, 110, 111, 116, 32, 114, 105, 103, 104, 116]), ("bailee/api.ErrName", 5, [105, 116, 32, 105, 115, 32, 110, 111, 32, 114, 105, 103, 104, 116, 32, 110, 97, 109, 101]), ("bailee/api.ErrKind", 6, [105, 116, 32, 105, 115, 32, 111, 102, 32, 97, 110, 111, 116, 104, 101, 114, 32, 107, 105, 110, 100]), ("bailee/api.ErrSize", 7, [105, 116, 32, 105, 115, 32, 110, 111, 116, 32, 111, 102, 32, 116, 104, 97, 116, 32, 115, 105, 122, 101]), ("bailee/api.ErrKey", 8, [116, 104, 101, 32, 107, 101, 121, 32, 105, 115, 32, 110, 111, 116, 32, 114, 105, 103, 104, 116]), ("bailee/api.ErrDup", 9, [105, 116, 32, 105, 115, 32, 116, 104, 101, 114, 101, 32, 97, 108, 114, 101, 97, 100, 121]), ("bailee/api.ErrNone", 10, [116, 104, 101, 114, 101, 32, 105, 115, 32, 110, 111, 110, 101]), ("bailee/api.ErrFull", 11, [116, 104, 101, 114, 101, 32, 105, 115, 32, 110, 111, 32, 109, 111, 114, 101, 32, 114, 111, 111, 109]), ("bailee/api.ErrState", 12, [105, 116, 32, 99, 97, 110, 32, 110, 111, 116, 32, 98, 101, 32, 100, 111, 110, 101, 32, 105, 110, 32, 116, 104, 105, 115, 32, 115, 116, 97, 116, 101]), ("bailee/api.ErrPower", 13, [116, 104, 101, 32, 112, 111, 119, 101, 114, 32, 105, 115, 32, 103, 111, 110, 101]), ("bailee/api.ErrProof", 14, [116, 104, 101, 32, 112, 114, 111, 111, 102, 32, 100, 111, 101, 115, 32, 110, 111, 116, 32, 104, 111, 108, 100]), ("bailee/api.ErrSpare", 15, [116, 104, 101, 114, 101, 32, 105, 115, 32, 116, 111, 111, 32, 108, 105, 116, 116, 108, 101, 32, 116, 111, 32, 103, 111, 32, 98, 121]), ("bailee/api.ErrLost", 16, [105, 116, 32, 99, 97, 110, 32, 110, 111, 116, 32, 98, 101, 32, 114, 101, 115, 116, 111, 114, 101, 100]), ("bailee/api.ErrBudget", 17, [110, 111, 116, 104, 105, 110, 103, 32, 111, 102, 32, 116, 104, 101, 32, 107, 105, 110, 100, 32, 105, 115, 32, 108, 101, 102, 116]), ("bailee/api.ErrLate", 18, [105, 116, 32, 99, 97, 109, 101, 32, 116, 111, 111, 32, 108, 97, 116, 101]), ("bailee/api.ErrZero", 19, [116, 104, 101, 114, 101, 32, 105, 115, 32, 110, 111, 32, 100, 105, 118, 105, 100, 105, 110, 103, 32, 98, 121, 32, 122, 101, 114, 111])]
theorem star : "*" ++ "errors.errorString" = "*errors.errorString" := by decide
theorem rowOf (u : TypeId) (h : Tryd.prog.typeName? 3 u = some "*errors.errorString") : u = 127 :=
  typeName_ptr_named (nm := "errors.errorString") (by rw [star]; kernel_rfl) (by kernel_rfl) (by decide) u (by rw [star]; exact h)
theorem sents {W : World} (h : laidMetH Tryd.prog Rows.paramsWrongRow.laid W) : ∃ B, Kit.Sents 127 W laidList B :=
  Kit.sents_of_met laidList Tryd.underlying29 rowOf Tryd.underlying127 Tryd.underlying147 rfl rfl Tryd.underlying9 (by kernel_rfl) (by kernel_rfl) rfl (by kernel_rfl) (laid_metH (laidMet_filter isIface (met h)) (by rfl))
theorem errs {W : World} (h : laidMetH Tryd.prog Rows.paramsWrongRow.laid W) : ∃ B, Er.Errs W B := by
  obtain ⟨B, hB⟩ := sents h
  exact ⟨B, hB.inj, (hB.at_ 0 _ rfl).cell, (hB.at_ 1 _ rfl).cell, (hB.at_ 2 _ rfl).cell, (hB.at_ 3 _ rfl).cell, (hB.at_ 4 _ rfl).cell, (hB.at_ 5 _ rfl).cell, (hB.at_ 6 _ rfl).cell, (hB.at_ 7 _ rfl).cell, (hB.at_ 8 _ rfl).cell, (hB.at_ 9 _ rfl).cell, (hB.at_ 10 _ rfl).cell, (hB.at_ 11 _ rfl).cell, (hB.at_ 12 _ rfl).cell, (hB.at_ 13 _ rfl).cell, (hB.at_ 14 _ rfl).cell, (hB.at_ 15 _ rfl).cell, (hB.at_ 16 _ rfl).cell, (hB.at_ 17 _ rfl).cell, (hB.at_ 18 _ rfl).cell, (hB.at_ 19 _ rfl).cell, fun i hi => by
    match i, hi with
    | 0, _ => exact (hB.at_ 0 _ rfl).block
    | 1, _ => exact (hB.at_ 1 _ rfl).block
    | 2, _ => exact (hB.at_ 2 _ rfl).block
    | 3, _ => exact (hB.at_ 3 _ rfl).block
    | 4, _ => exact (hB.at_ 4 _ rfl).block
    | 5, _ => exact (hB.at_ 5 _ rfl).block
    | 6, _ => exact (hB.at_ 6 _ rfl).block
    | 7, _ => exact (hB.at_ 7 _ rfl).block
    | 8, _ => exact (hB.at_ 8 _ rfl).block
    | 9, _ => exact (hB.at_ 9 _ rfl).block
    | 10, _ => exact (hB.at_ 10 _ rfl).block
    | 11, _ => exact (hB.at_ 11 _ rfl).block
    | 12, _ => exact (hB.at_ 12 _ rfl).block
    | 13, _ => exact (hB.at_ 13 _ rfl).block
    | 14, _ => exact (hB.at_ 14 _ rfl).block
    | 15, _ => exact (hB.at_ 15 _ rfl).block
    | 16, _ => exact (hB.at_ 16 _ rfl).block
    | 17, _ => exact (hB.at_ 17 _ rfl).block
    | 18, _ => exact (hB.at_ 18 _ rfl).block
    | 19, _ => exact (hB.at_ 19 _ rfl).block
    | n + 20, h => omega⟩

set_option maxRecDepth 100000 in
set_option maxHeartbeats 1000000 in
theorem contract (H : Type) (enc : TypeId × Value → H) (W : World) (base : Nat) (args : Array Value) (ds gs : List (DataW H)) (before : List MemPlace)
    (hval : ∀ (j : Nat) t v, Tryd.f6.params[j]? = some t → args[j]? = some v → Value.okWide Tryd.prog W .any base t v)
    (hW : DataW.Whole enc Tryd.prog Tryd.f6.params.toList Rows.paramsWrongSpec.vars false W args.toList ds gs before)
    (hsz : (DataW.weightsEach Tryd.prog (Tryd.f6.params.toList ++ (OpenSpec.ofChange Rows.paramsWrongSpec).bare.plain.varTypes Tryd.prog) (ds ++ gs)).all (· ≤ reachBytes) = true)
    (hL : laidMetH Tryd.prog Rows.paramsWrongRow.laid W) :
    Calls Tryd.prog 6 args W fun e W' => ∃ v, e = .returned v ∧ Rows.paramsWrongSpec.post enc Tryd.prog Tryd.f6 false true false false W args v W' := by
  have hW' := hW
  obtain ⟨p, q, hA0, hV, rfl, hfz, hnd⟩ := hW
  have hA : DataW.TrodAll enc Tryd.prog W 0 (fun _ => true) true Tryd.f6.params.toList args.toList ds p := hA0
  rw [Tryd.params6] at hA hval
  obtain ⟨v0, vs0, d0, ds0, p0, q0, hargs, rfl, rfl, h0, r0⟩ := trodAll_cons hA
  obtain ⟨v1, vs1, d1, ds1, p1, q1, rfl, rfl, rfl, h1, r1⟩ := trodAll_cons r0
  obtain ⟨v2, vs2, d2, ds2, p2, q2, rfl, rfl, rfl, h2, r2⟩ := trodAll_cons r1
  obtain ⟨rfl, rfl, rfl⟩ := trodAll_nil r2
  obtain rfl : args = #[v0, v1, v2] := by cases args; simp_all
  obtain ⟨rfl, rfl⟩ := trodVars_none hV
  clear hA0
  simp only [List.append_nil] at hW'
  obtain ⟨a0, rfl, rfl, rfl, w0⟩ := Go.ChangeMaps.open_string Tryd.underlying9 (hval 0 9 v0 rfl rfl) h0
  obtain ⟨a1, rfl, rfl, rfl, w1⟩ := open_int Tryd.underlying3 (hval 1 3 v1 rfl rfl) h1
  obtain ⟨a2, rfl, rfl, rfl, w2⟩ := open_int Tryd.underlying3 (hval 2 3 v2 rfl rfl) h2
  have walk : Calls Tryd.prog 6 #[.string a0, .int .i64 a1, .int .i64 a2] W fun e W' => e = .returned (.bool true) ∧ Below W.heap.size W W' := by
    have hg := etype hL
    obtain ⟨B, hB⟩ := errs hL
    have hs : (.string a0 : Value) = txt15 a0.data.toList := by unfold txt15; simp
    rw [hs]
    exact pw15_any B (pac15 _) a0.data.toList a1 a2 (i64_wf w1) W hB hg (tab_strconv_uint64pow10 hL)
  refine walk.mono fun e W' ⟨he, hb⟩ => ?_
  subst he
  exact ⟨_, rfl, Kit.law_post laidOut fine (by kernel_rfl) Tryd.underlying4 rfl rfl hW' hb⟩

set_option maxRecDepth 100000 in
theorem reads (os : Os) (H : Type) (enc : TypeId × Value → H) : ∃ places, DataW.whole enc Tryd.prog ((World.doorLaid Tryd.prog 4000 os).forCall (fun _ _ => 0) ⟨#[], #[.string ByteArray.empty, .int .i64 0, .int .i64 0], []⟩).memory Tryd.f6.params.toList Rows.paramsWrongSpec.vars false (#[.string ByteArray.empty, .int .i64 0, .int .i64 0] : Array Value).toList 8 = some ([.lit (.string []), .lit (.int .i64 0), .lit (.int .i64 0)], [], places) :=
  ⟨[], by kernel_rfl⟩

set_option maxRecDepth 100000 in
theorem lifted (os : Os) (started : os.Started) (H : Type) (enc : TypeId × Value → H) (F : Stop.Interp) :
    ReturnsInHanded {} Tryd.checked os 6 .any ((OpenSpec.ofChange Rows.paramsWrongSpec).preRow enc Tryd.prog Tryd.f6 Rows.paramsWrongRow.domain false Rows.paramsWrongRow.laid) (((OpenSpec.ofChange Rows.paramsWrongSpec).at F).post enc Tryd.prog Tryd.f6 false true false false) := by
  obtain ⟨places, hx⟩ := reads os H enc
  have hmet : laidMetH Tryd.prog Rows.paramsWrongRow.laid ((World.doorLaid Tryd.prog 4000 os).forCall (fun _ _ => 0) ⟨#[], #[.string ByteArray.empty, .int .i64 0, .int .i64 0], []⟩).memory := laidMetH_of_parts (laidMet_of_run' 8 (by kernel_rfl) (by kernel_rfl)) (by kernel_rfl)
  refine returnsInHanded_of_row (C := Tryd.checked) (s := (OpenSpec.ofChange Rows.paramsWrongSpec)) own started (by kernel_rfl) Tryd.func6
    (witness_row_atRef (enc := enc) (C := Tryd.checked) false (World.doorLaid Tryd.prog 4000 os) #[.string ByteArray.empty, .int .i64 0, .int .i64 0] rfl (by kernel_rfl) (by kernel_rfl) (by kernel_rfl)
      (OpenSpec.preRow_of_cond 8 hx (by kernel_rfl) (fun k hk => by cases hk) (by kernel_rfl) hmet)) ?_
  intro W base args ds gs before hval hW _ hcond hsz hL _ _
  exact contract H enc W base args ds gs before hval hW hsz hL

theorem said : Rows.ParamsWrongSaid :=
  OpenClaim.holds_of_cond 6 Tryd.f6 rfl rfl rfl rfl rfl rfl rfl ⟨rfl, rfl, rfl, rfl, rfl⟩ rfl rfl rfl rfl rfl (by kernel_rfl) Tryd.func6 (by kernel_rfl)
    (of_decide_eq_true (by kernel_rfl)) (by unfold Func.isWrapper; first | (rw [if_pos (by decide +kernel)]; kernel_rfl) | (rw [if_neg (by decide +kernel)]; exact ⟨rfl, rfl⟩))
    (fun os started H enc _ F => by rw [OpenClaim.pre_eq_preRow]; exact lifted os started H enc F)

theorem plain (f : FuncId) (fn : Func) (hf : Tryd.pinned.checked.prog.funcNamed "bailee/baileelaw15.ParamsWrong" = some f) (hfn : Tryd.pinned.checked.prog.funcs[f]? = some fn) :
    true = Tryd.pinned.checked.prog.looks [] ∧ ∀ (j : Nat) t, fn.params[j]? = some t → Tryd.pinned.checked.prog.wantsStandIn t = false := by
  obtain rfl : f = 6 := Option.some.inj ((show Tryd.prog.funcNamed "bailee/baileelaw15.ParamsWrong" = some 6 by kernel_rfl).symm.trans hf) |>.symm
  obtain rfl : fn = Tryd.f6 := (Option.some.inj (Tryd.func6.symm.trans hfn)).symm
  refine ⟨by kernel_rfl, fun j t ht => ?_⟩
  rw [Tryd.params6] at ht
  have hm : t ∈ [9, 3, 3] := by simpa using Array.mem_of_getElem? ht
  have hall : ([9, 3, 3].all fun u => !Tryd.prog.wantsStandIn u) = true := by kernel_rfl
  exact (show Tryd.prog.wantsStandIn t = false by simpa using List.all_eq_true.1 hall t hm)
/-- the statement -/
theorem card : Rows.ParamsWrongCardSaid :=
  Claim7.holds_tied_plain_at .later [] _ _ _ _ said (fun _ h => by cases h) (by kernel_rfl) (fun _ h => by cases h) paramsWrong_row_tie rfl ⟨rfl, rfl⟩ (by kernel_rfl) rfl plain (by kernel_rfl)
end Go.Proofs.YtomkkkbdipcjgaaDoor.paramsWrong
