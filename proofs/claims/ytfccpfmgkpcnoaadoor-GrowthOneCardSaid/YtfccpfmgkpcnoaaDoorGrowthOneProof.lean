/- GrowthOne: for every input the statement's Go function returns true and leaves its arguments as they were; the sentinel errors that its row lists are as the program lays them. -/
import Derived.Test.YtfccpfmgkpcnoaaDoorKit
import Derived.Test.YtfccpfmgkpcnoaaDoorWox14
import Derived.Test.YtfccpfmgkpcnoaaDoorCg14
import Derived.Test.YtfccpfmgkpcnoaaDoorOc14
import Derived.Test.YtfccpfmgkpcnoaaDoorOp
import Derived.Test.YtfccpfmgkpcnoaaDoorVr2
import Derived.Test.YtfccpfmgkpcnoaaDoorCards
import Derived.Test.YtfccpfmgkpcnoaaDoorTie
namespace Go.Proofs.YtfccpfmgkpcnoaaDoor.growthOne
open Go.ChangeShapes Go.WideShapes Go.ChangeAt Go.RowKit
set_option linter.unusedVariables false
theorem own : ownKnob Tryd.prog.godebug = none := by kernel_rfl
theorem laidOut : laidOutB Tryd.prog = true := by kernel_rfl
theorem fine : (Tryd.f7.params.toList.all fun t => Tryd.prog.readableRec t && decide (t < Tryd.prog.types.size)) = true := by kernel_rfl
theorem met {W : World} (h : laidMetH Tryd.prog Rows.growthOneRow.laid W) : laidMet Tryd.prog Rows.growthOneRow.laid W := laid_met h (by rfl)
theorem var_baileeref07_begins {W : World} (h : laidMetH Tryd.prog Rows.growthOneRow.laid W) : Var W 20 [1779033703, 3144134277, 1013904242, 2773480762, 1359893119, 2600822924, 528734635, 1541459225] :=
  var_of_laid (met h) "bailee/baileeref07.begins" [1779033703, 3144134277, 1013904242, 2773480762, 1359893119, 2600822924, 528734635, 1541459225] (List.mem_of_getElem? (i := 0) (by kernel_rfl)) (by decide) 20 101 96 8 (by kernel_rfl) (by kernel_rfl) Tryd.underlying101 Tryd.underlying96 (by kernel_rfl)
theorem var_baileeref07_added {W : World} (h : laidMetH Tryd.prog Rows.growthOneRow.laid W) : Var W 21 [1116352408, 1899447441, 3049323471, 3921009573, 961987163, 1508970993, 2453635748, 2870763221, 3624381080, 310598401, 607225278, 1426881987, 1925078388, 2162078206, 2614888103, 3248222580, 3835390401, 4022224774, 264347078, 604807628, 770255983, 1249150122, 1555081692, 1996064986, 2554220882, 2821834349, 2952996808, 3210313671, 3336571891, 3584528711, 113926993, 338241895, 666307205, 773529912, 1294757372, 1396182291, 1695183700, 1986661051, 2177026350, 2456956037, 2730485921, 2820302411, 3259730800, 3345764771, 3516065817, 3600352804, 4094571909, 275423344, 430227734, 506948616, 659060556, 883997877, 958139571, 1322822218, 1537002063, 1747873779, 1955562222, 2024104815, 2227730452, 2361852424, 2428436474, 2756734187, 3204031479, 3329325298] :=
  var_of_laid (met h) "bailee/baileeref07.added" [1116352408, 1899447441, 3049323471, 3921009573, 961987163, 1508970993, 2453635748, 2870763221, 3624381080, 310598401, 607225278, 1426881987, 1925078388, 2162078206, 2614888103, 3248222580, 3835390401, 4022224774, 264347078, 604807628, 770255983, 1249150122, 1555081692, 1996064986, 2554220882, 2821834349, 2952996808, 3210313671, 3336571891, 3584528711, 113926993, 338241895, 666307205, 773529912, 1294757372, 1396182291, 1695183700, 1986661051, 2177026350, 2456956037, 2730485921, 2820302411, 3259730800, 3345764771, 3516065817, 3600352804, 4094571909, 275423344, 430227734, 506948616, 659060556, 883997877, 958139571, 1322822218, 1537002063, 1747873779, 1955562222, 2024104815, 2227730452, 2361852424, 2428436474, 2756734187, 3204031479, 3329325298] (List.mem_of_getElem? (i := 1) (by kernel_rfl)) (by decide) 21 102 96 64 (by kernel_rfl) (by kernel_rfl) Tryd.underlying102 Tryd.underlying96 (by kernel_rfl)
theorem var_sha_beginning {W : World} (h : laidMetH Tryd.prog Rows.growthOneRow.laid W) : Var W 22 [1779033703, 3144134277, 1013904242, 2773480762, 1359893119, 2600822924, 528734635, 1541459225] :=
  var_of_laid (met h) "bailee/sha.beginning" [1779033703, 3144134277, 1013904242, 2773480762, 1359893119, 2600822924, 528734635, 1541459225] (List.mem_of_getElem? (i := 6) (by kernel_rfl)) (by decide) 22 101 96 8 (by kernel_rfl) (by kernel_rfl) Tryd.underlying101 Tryd.underlying96 (by kernel_rfl)
theorem var_sha_cubes {W : World} (h : laidMetH Tryd.prog Rows.growthOneRow.laid W) : Var W 23 [1116352408, 1899447441, 3049323471, 3921009573, 961987163, 1508970993, 2453635748, 2870763221, 3624381080, 310598401, 607225278, 1426881987, 1925078388, 2162078206, 2614888103, 3248222580, 3835390401, 4022224774, 264347078, 604807628, 770255983, 1249150122, 1555081692, 1996064986, 2554220882, 2821834349, 2952996808, 3210313671, 3336571891, 3584528711, 113926993, 338241895, 666307205, 773529912, 1294757372, 1396182291, 1695183700, 1986661051, 2177026350, 2456956037, 2730485921, 2820302411, 3259730800, 3345764771, 3516065817, 3600352804, 4094571909, 275423344, 430227734, 506948616, 659060556, 883997877, 958139571, 1322822218, 1537002063, 1747873779, 1955562222, 2024104815, 2227730452, 2361852424, 2428436474, 2756734187, 3204031479, 3329325298] :=
  var_of_laid (met h) "bailee/sha.cubes" [1116352408, 1899447441, 3049323471, 3921009573, 961987163, 1508970993, 2453635748, 2870763221, 3624381080, 310598401, 607225278, 1426881987, 1925078388, 2162078206, 2614888103, 3248222580, 3835390401, 4022224774, 264347078, 604807628, 770255983, 1249150122, 1555081692, 1996064986, 2554220882, 2821834349, 2952996808, 3210313671, 3336571891, 3584528711, 113926993, 338241895, 666307205, 773529912, 1294757372, 1396182291, 1695183700, 1986661051, 2177026350, 2456956037, 2730485921, 2820302411, 3259730800, 3345764771, 3516065817, 3600352804, 4094571909, 275423344, 430227734, 506948616, 659060556, 883997877, 958139571, 1322822218, 1537002063, 1747873779, 1955562222, 2024104815, 2227730452, 2361852424, 2428436474, 2756734187, 3204031479, 3329325298] (List.mem_of_getElem? (i := 7) (by kernel_rfl)) (by decide) 23 102 96 64 (by kernel_rfl) (by kernel_rfl) Tryd.underlying102 Tryd.underlying96 (by kernel_rfl)
def laidList : List (String × Nat × List UInt8) := [("bailee/api.ErrRange", 0, [97, 32, 110, 117, 109, 98, 101, 114, 32, 105, 115, 32, 111, 117, 116, 32, 111, 102, 32, 105, 116, 115, 32, 114, 97, 110, 103, 101]), ("bailee/api.ErrSize", 1, [105, 116, 32, 105, 115, 32, 110, 111, 116, 32, 111, 102, 32, 116, 104, 97, 116, 32, 115, 105, 122, 101]), ("bailee/api.ErrFull", 2, [116, 104, 101, 114, 101, 32, 105, 115, 32, 110, 111, 32, 109, 111, 114, 101, 32, 114, 111, 111, 109]), ("bailee/api.ErrProof", 14, [116, 104, 101, 32, 112, 114, 111, 111, 102, 32, 100, 111, 101, 115, 32, 110, 111, 116, 32, 104, 111, 108, 100])]
theorem star : "*" ++ "errors.errorString" = "*errors.errorString" := by decide
theorem rowOf (u : TypeId) (h : Tryd.prog.typeName? 3 u = some "*errors.errorString") : u = 135 :=
  typeName_ptr_named (nm := "errors.errorString") (by rw [star]; kernel_rfl) (by kernel_rfl) (by decide) u (by rw [star]; exact h)
theorem sents {W : World} (h : laidMetH Tryd.prog Rows.growthOneRow.laid W) : ∃ B, Kit.Sents 135 W laidList B :=
  Kit.sents_of_met laidList Tryd.underlying29 rowOf Tryd.underlying135 Tryd.underlying159 rfl rfl Tryd.underlying9 (by kernel_rfl) (by kernel_rfl) rfl (by kernel_rfl) (laid_metH (laidMet_filter isIface (met h)) (by rfl))

set_option maxRecDepth 100000 in
set_option maxHeartbeats 1000000 in
theorem contract (H : Type) (enc : TypeId × Value → H) (W : World) (base : Nat) (args : Array Value) (ds gs : List (DataW H)) (before : List MemPlace)
    (hval : ∀ (j : Nat) t v, Tryd.f7.params[j]? = some t → args[j]? = some v → Value.okWide Tryd.prog W .any base t v)
    (hW : DataW.Whole enc Tryd.prog Tryd.f7.params.toList Rows.growthOneSpec.vars false W args.toList ds gs before)
    (hsz : (DataW.weightsEach Tryd.prog (Tryd.f7.params.toList ++ (OpenSpec.ofChange Rows.growthOneSpec).bare.plain.varTypes Tryd.prog) (ds ++ gs)).all (· ≤ reachBytes) = true)
    (hL : laidMetH Tryd.prog Rows.growthOneRow.laid W) :
    Calls Tryd.prog 7 args W fun e W' => ∃ v, e = .returned v ∧ Rows.growthOneSpec.post enc Tryd.prog Tryd.f7 false true false false W args v W' := by
  have hW' := hW
  obtain ⟨p, q, hA0, hV, rfl, hfz, hnd⟩ := hW
  have hA : DataW.TrodAll enc Tryd.prog W 0 (fun _ => true) true Tryd.f7.params.toList args.toList ds p := hA0
  rw [Tryd.params7] at hA hval
  obtain ⟨v0, vs0, d0, ds0, p0, q0, hargs, rfl, rfl, h0, r0⟩ := trodAll_cons hA
  obtain ⟨v1, vs1, d1, ds1, p1, q1, rfl, rfl, rfl, h1, r1⟩ := trodAll_cons r0
  obtain ⟨rfl, rfl, rfl⟩ := trodAll_nil r1
  obtain rfl : args = #[v0, v1] := by cases args; simp_all
  obtain ⟨rfl, rfl⟩ := trodVars_none hV
  clear hA0
  simp only [List.append_nil] at hW'
  have hlt := hW'.lt
  have hlt0 : ∀ x ∈ p0, x.block < W.heap.size := fun x hx => hlt x (by simp [hx])
  have hlt1 : ∀ x ∈ p1, x.block < W.heap.size := fun x hx => hlt x (by simp [hx])
  obtain ⟨m0, n0, od0, nw0, op0, cp0, ps0, hod0, hnw0, rfl, wm0, wn0, sp0⟩ := open_askG Tryd.underlying54 (by kernel_rfl) rfl rfl rfl rfl rfl (by kernel_rfl) (by kernel_rfl) (by kernel_rfl) (by kernel_rfl) (by kernel_rfl) Tryd.underlying3 Tryd.underlying3 Tryd.underlying40 Tryd.underlying40 Tryd.underlying35 Tryd.underlying40 (by kernel_rfl) Tryd.underlying5 (by kernel_rfl) (hval 0 54 v0 rfl rfl) h0 hlt0
  obtain ⟨y1, hy1, rfl⟩ := open_u8arr Tryd.underlying40 Tryd.underlying5 (by kernel_rfl) (by kernel_rfl) (hval 1 40 v1 rfl rfl) h1
  have walk : Calls Tryd.prog 7 #[.agg (askG m0 n0 od0 nw0 (.slice op0 ps0.length cp0)).toArray, .agg (bytesV y1).toArray] W fun e W' => e = .returned (.bool true) ∧ Below W.heap.size W W' := by
    obtain ⟨B, hB⟩ := sents hL
    have hS : E13 W (fun k => if k = 7 then B 1 else if k = 14 then B 3 else B 0) := ⟨(hB.at_ 0 _ rfl).cell, (hB.at_ 1 _ rfl).cell, (hB.at_ 3 _ rfl).cell⟩
    exact wz14_any _ (grc14 _) m0 n0 od0 nw0 y1 op0 cp0 ps0 hod0 hnw0 hy1 W sp0 ⟨var_sha_cubes hL, var_sha_beginning hL⟩ ⟨var_baileeref07_added hL, var_baileeref07_begins hL⟩ hS
  refine walk.mono fun e W' ⟨he, hb⟩ => ?_
  subst he
  exact ⟨_, rfl, Kit.law_post laidOut fine (by kernel_rfl) Tryd.underlying4 rfl rfl hW' hb⟩

set_option maxRecDepth 100000 in
theorem reads (os : Os) (H : Type) (enc : TypeId × Value → H) : ∃ places, DataW.whole enc Tryd.prog ((World.doorLaid Tryd.prog 400 os).forCall (fun _ _ => 0) ⟨#[], #[.agg (Array.append #[.int .i64 0, .int .i64 0] (Array.append (Array.replicate 64 (.int .u8 0)) #[.slice none 0 0])), .agg (Array.replicate 32 (.int .u8 0))], []⟩).memory Tryd.f7.params.toList Rows.growthOneSpec.vars false (#[.agg (Array.append #[.int .i64 0, .int .i64 0] (Array.append (Array.replicate 64 (.int .u8 0)) #[.slice none 0 0])), .agg (Array.replicate 32 (.int .u8 0))] : Array Value).toList 8 = some ([.agg [.lit (.int .i64 0), .lit (.int .i64 0), .agg (List.replicate 32 (.lit (.int .u8 0))), .agg (List.replicate 32 (.lit (.int .u8 0))), .nil], .agg (List.replicate 32 (.lit (.int .u8 0)))], [], places) :=
  ⟨[], by kernel_rfl⟩

set_option maxRecDepth 100000 in
theorem lifted (os : Os) (started : os.Started) (H : Type) (enc : TypeId × Value → H) (F : Stop.Interp) :
    ReturnsInHanded {} Tryd.checked os 7 .any ((OpenSpec.ofChange Rows.growthOneSpec).preRow enc Tryd.prog Tryd.f7 Rows.growthOneRow.domain false Rows.growthOneRow.laid) (((OpenSpec.ofChange Rows.growthOneSpec).at F).post enc Tryd.prog Tryd.f7 false true false false) := by
  obtain ⟨places, hx⟩ := reads os H enc
  have hmet : laidMet Tryd.prog Rows.growthOneRow.laid ((World.doorLaid Tryd.prog 400 os).forCall (fun _ _ => 0) ⟨#[], #[.agg (Array.append #[.int .i64 0, .int .i64 0] (Array.append (Array.replicate 64 (.int .u8 0)) #[.slice none 0 0])), .agg (Array.replicate 32 (.int .u8 0))], []⟩).memory := laidMet_of_run' 8 (by kernel_rfl) (by kernel_rfl)
  refine returnsInHanded_of_row (C := Tryd.checked) (s := (OpenSpec.ofChange Rows.growthOneSpec)) own started (by kernel_rfl) Tryd.func7
    (witness_row_atRef (enc := enc) (C := Tryd.checked) false (World.doorLaid Tryd.prog 400 os) #[.agg (Array.append #[.int .i64 0, .int .i64 0] (Array.append (Array.replicate 64 (.int .u8 0)) #[.slice none 0 0])), .agg (Array.replicate 32 (.int .u8 0))] rfl (by kernel_rfl) (by kernel_rfl) (by kernel_rfl)
      (OpenSpec.preRow_of_cond 8 hx (by kernel_rfl) (fun k hk => by cases hk) (by kernel_rfl) hmet)) ?_
  intro W base args ds gs before hval hW _ hcond hsz hL _ _
  exact contract H enc W base args ds gs before hval hW hsz hL

theorem said : Rows.GrowthOneSaid :=
  OpenClaim.holds_of_cond 7 Tryd.f7 rfl rfl rfl rfl rfl rfl rfl ⟨rfl, rfl, rfl, rfl, rfl⟩ rfl rfl rfl rfl rfl (by kernel_rfl) Tryd.func7 (by kernel_rfl)
    (of_decide_eq_true (by kernel_rfl)) (by unfold Func.isWrapper; first | (rw [if_pos (by decide +kernel)]; kernel_rfl) | (rw [if_neg (by decide +kernel)]; exact ⟨rfl, rfl⟩))
    (fun os started H enc _ F => by rw [OpenClaim.pre_eq_preRow]; exact lifted os started H enc F)

theorem plain (f : FuncId) (fn : Func) (hf : Tryd.pinned.checked.prog.funcNamed "bailee/baileelaw14.GrowthOne" = some f) (hfn : Tryd.pinned.checked.prog.funcs[f]? = some fn) :
    true = Tryd.pinned.checked.prog.looks [] ∧ ∀ (j : Nat) t, fn.params[j]? = some t → Tryd.pinned.checked.prog.wantsStandIn t = false := by
  obtain rfl : f = 7 := Option.some.inj ((show Tryd.prog.funcNamed "bailee/baileelaw14.GrowthOne" = some 7 by kernel_rfl).symm.trans hf) |>.symm
  obtain rfl : fn = Tryd.f7 := (Option.some.inj (Tryd.func7.symm.trans hfn)).symm
  refine ⟨by kernel_rfl, fun j t ht => ?_⟩
  rw [Tryd.params7] at ht
  have hm : t ∈ [54, 40] := by simpa using Array.mem_of_getElem? ht
  have hall : ([54, 40].all fun u => !Tryd.prog.wantsStandIn u) = true := by kernel_rfl
  exact (show Tryd.prog.wantsStandIn t = false by simpa using List.all_eq_true.1 hall t hm)
/-- the statement -/
theorem card : Rows.GrowthOneCardSaid :=
  Claim7.holds_tied_plain_at .later [] _ _ _ _ said (fun _ h => by cases h) (by kernel_rfl) (fun _ h => by cases h) growthOne_row_tie rfl ⟨rfl, rfl⟩ (by kernel_rfl) rfl plain (by kernel_rfl)
end Go.Proofs.YtfccpfmgkpcnoaaDoor.growthOne
