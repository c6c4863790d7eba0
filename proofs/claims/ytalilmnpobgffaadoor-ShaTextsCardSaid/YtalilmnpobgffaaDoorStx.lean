/- ShaTexts. -/
import Derived.Test.YtalilmnpobgffaaDoorTz
import Derived.Test.YtalilmnpobgffaaDoorAl7
import Derived.Test.YtalilmnpobgffaaDoorErr
import Derived.Test.YtalilmnpobgffaaDoorQt
namespace Go.Proofs.YtalilmnpobgffaaDoor
open Go.RowKit
set_option linter.unusedVariables false
set_option linter.unusedSimpArgs false
namespace St
theorem cell_lt {W : World} {g : Nat} {v : Value} (h : W.cell? ⟨g, 0, none⟩ = some v) : g < W.heap.size := by
  unfold World.cell? at h
  cases hh : W.heap[g]? with
  | none => simp [hh] at h
  | some o => exact (Array.getElem?_eq_some_iff.1 hh).1
theorem qk_val {P : Program} {ops : Array Oper} {C : World → Prop} {K : Act → Prop} {o : Oper} {a : Act} {x : Value} (hg : Region.wanted o (yielded ops a.tmps) = true) (hv : ∀ w, C w → (execOp a.eval o).run P w = .ok (.value x) w) (h : K (a.put o.dst x)) :
    if Region.wanted o (yielded ops a.tmps) then o.quiet P a C K else K (a.put o.dst undef) := by
  rw [if_pos hg]
  refine ⟨x, fun w hw => ?_, h⟩
  unfold Oper.quietAt
  rw [hv w hw]
  exact ⟨rfl, rfl⟩
theorem qk_call {P : Program} {ops : Array Oper} {C : World → Prop} {K : Act → Prop} {o : Oper} {a : Act} (hg : Region.wanted o (yielded ops a.tmps) = true) (f : FuncId) (xs : Array Operand) (ts : Array TypeId) (ho : o.op = .call { callee := .value (.func f), args := xs, argTypes := ts })
    (args : Array Value) (ha : xs.map a.eval = args) (ek : ∀ w, (callFunc f args).run P w = .ok (.enter f args) w) (v : Value) (hc : ∀ w, C w → Calls P f args w fun e w' => e = .returned v ∧ C w')
    (h : K (a.put o.dst v)) : if Region.wanted o (yielded ops a.tmps) then o.quiet P a C K else K (a.put o.dst undef) := by
  rw [if_pos hg]
  refine ⟨v, fun w hw => ?_, h⟩
  have hrun : (execOp a.eval o).run P w = .ok (.enter f args) w := by
    simp only [execOp, ho, resolve, invoke]
    have hx : a.eval (.func f) = .func (.func f) #[] #[] := rfl
    simp [hx, ha, ek w, go_sem]
  unfold Oper.quietAt
  rw [hrun]
  exact ⟨rfl, hc w hw⟩
theorem exec_load {P : Program} {o : Oper} {a : Act} {w : World} {ty : TypeId} {x : Operand} {b off : Nat} (ho : o.op = .load ty x) (hx : a.eval x = .pointer (some ⟨b, off, none⟩)) (cs : List Value) (d : TypeDesc) (hc : w.rangeAt b off cs) (hu : P.underlying ty = some d) (hd : d.isRow = true) (hi : (P.info? ty).map (·.size) = some cs.length) :
    (execOp a.eval o).run P w = .ok (.value (.agg cs.toArray)) w := by
  unfold execOp
  simp only [ho, hx, run_loadAt_mid w b off ty cs d hc hu hd hi, Result.andThen_ok, Sem.run_bind, Sem.run_pure]
theorem exec_conv {P : Program} {o : Oper} {a : Act} {w : World} {s d : TypeId} {x : Operand} {y : Value} (ho : o.op = .convert s d x) (h : (convert s d (a.eval x)).run P w = .ok y w) : (execOp a.eval o).run P w = .ok (.value y) w := by
  simp [execOp, ho, h, Result.andThen]
end St
theorem str_list (l : List UInt8) : (⟨l.toArray⟩ : ByteArray).toList = l := by
  have h : ∀ s : ByteArray, s.toList = s.data.toList := fun s => by exact ByteArray.toList_eq s
  rw [h]
def St1 (s : ByteArray) (W : World) (r i : Value) (wr : World) : Prop :=
  ∃ k : Nat, k ≤ s.size ∧ i = .int .i64 k ∧ r = .bool (decide (s.size = 64) && (s.data.toList.take k).all isF) ∧ wr = W
set_option maxRecDepth 100000 in
set_option maxHeartbeats 4000000 in
theorem st_of (Z : Array Value) (hZ : Z = (bytesV (List.replicate 32 0)).toArray) (hzs : ∀ w, Sem.run Tryd.prog (zeroValue 28) w = .ok (.agg Z) w) (hbu : Tryd.prog.built 26 [] = some Z) (hbg : Tryd.prog.built 28 [] = some Z) (d e : List UInt8) (hd : d.length = 32) (he : e.length = 32) (s : ByteArray) (hs : s.size ≤ 9223372036854775807) (W : World) (A : Nat → Addr) (hE : Er.Errs W A) (hC : Cds W) :
    Calls Tryd.prog 4 #[.agg (bytesV d).toArray, .string s, .agg (bytesV e).toArray] W fun r w' => r = .returned (.bool true) ∧ Below W.heap.size W w' := by
  obtain ⟨CD, hCD⟩ : ∃ CD, (bytesV d).toArray = CD := ⟨_, rfl⟩
  obtain ⟨CE, hCE⟩ : ∃ CE, (bytesV e).toArray = CE := ⟨_, rfl⟩
  rw [hCD, hCE]
  obtain ⟨g, hg⟩ : ∃ g, W.heap.size = g := ⟨_, rfl⟩
  obtain ⟨W1, hW1⟩ : ∃ W1, (W.alloc (.cells CD 26)).alloc (.cells CE 26) = W1 := ⟨_, rfl⟩
  have hs1 : (W.alloc (.cells CD 26)).heap.size = g + 1 := by rw [World.size_alloc, hg]
  have hA0 : Arr (W.alloc (.cells CD 26)) g 26 (bytesV d) := by rw [← hCD, ← hg]; exact Arr.made _ _ _
  have hA1 : Arr W1 g 26 (bytesV d) := by rw [← hW1]; exact hA0.alloc _
  have hB1 : Arr W1 (g + 1) 26 (bytesV e) := by rw [← hW1, ← hCE, ← hs1]; exact Arr.made _ _ _
  have hb1 : Below W.heap.size W W1 := by rw [← hW1]; exact ((Below.refl _ _).alloc (Nat.le_refl _) _).alloc (by rw [World.size_alloc]; omega) _
  have HW1 := Lib.hid hW1
  have HA1 := Lib.hid hA1
  have HB1 := Lib.hid hB1
  have HBL := Lib.hid hb1
  have HE := Lib.hid hE
  have HC := Lib.hid hC
  have HZ := Lib.hid hZ
  have HBU := Lib.hid hbu
  have HBG := Lib.hid hbg
  have HCD := Lib.hid hCD
  have HCE := Lib.hid hCE
  have HG := Lib.hid hg
  clear hW1 hA0 hA1 hB1 hb1 hE hC hZ hbu hbg hCD hCE hs1
  go_enter Tryd.func4, Tryd.ntmps4
  go_wp2_with (first | rw [HW1.out])
  refine (alive7_any W1 (HC.out.later HBL.out)).mono ?_
  rintro r W2 ⟨rfl, hb2⟩
  have HB2 := Lib.hid (Kit.step HBL.out hb2)
  have HA2 := Lib.hid (HA1.out.later hb2 HA1.out.lt)
  have HE2 := Lib.hid (HB1.out.later hb2 HB1.out.lt)
  clear hb2
  by_cases hn : 200 < s.size
  · go_wp2_with fail
    go_ret
    exact ⟨rfl, HB2.out⟩
  · have hnl : ¬ (s.size : Int) > 200 := by omega
    have HLI : Hid ((Tryd.prog.info? 26).map (·.size) = some CD.size) := Lib.hid (by rw [d32_info, ← HCD.out]; simp [hd])
    have HIN : Hid (W2.heap[g]? = some (.cells CD 26 (0, 0))) := Lib.hid (by rw [← HCD.out]; exact HA2.out)
    obtain ⟨S, hS⟩ : ∃ S : ByteArray, ⟨(hexL d).toArray⟩ = S := ⟨_, rfl⟩
    have HX : Hid (∀ v, Calls Tryd.prog 14 #[.agg CD] v fun r w' => r = .returned (.string S) ∧ Below v.heap.size v w') := Lib.hid fun v => by rw [← HCD.out, ← hS]; exact hex_any d hd v
    have HS := Lib.hid hS
    clear hS
    go_wp2_with (first | refine wpList_load_row rfl 26 (.tmp 3) rfl g rfl 26 CD (0, 0) _ HIN.out d32_under rfl HLI.out ?_)
    refine (HX.out _).mono ?_
    rintro r W3 ⟨rfl, hb3⟩
    have hE3 := HE.out.later (Kit.step HB2.out hb3)
    have UN : Hid (Calls Tryd.prog 15 #[.string S] W3 fun r w' => r = .returned (.tuple #[.agg CD, .nilIface]) ∧ Below W3.heap.size W3 w') := Lib.hid (by
      refine (unhex_any S (A 3) W3 hE3.c3 (St.cell_lt hE3.c3) (by rw [← HS.out]; show (hexL d).toArray.size ≤ _; simp [hexL_length])).mono ?_
      rintro r w' ⟨h1, _, hb⟩
      refine ⟨?_, hb⟩
      have hl : S.data.toList = hexL d := by rw [← HS.out]
      rw [hl] at h1
      rw [h1 (hex_isD d hd), uh_hex d hd, HCD.out])
    have HB3 := Lib.hid (Kit.step HB2.out hb3)
    have HA3 := Lib.hid (HA2.out.later hb3 HA2.out.lt)
    have HE3 := Lib.hid (HE2.out.later hb3 HE2.out.lt)
    clear hb3 hE3
    go_wp2_with fail
    refine UN.out.mono ?_
    rintro r W4 ⟨rfl, hb4⟩
    have HB4 := Lib.hid (Kit.step HB3.out hb4)
    have HA4 := Lib.hid (HA3.out.later hb4 HA3.out.lt)
    have HE4 := Lib.hid (HE3.out.later hb4 HE3.out.lt)
    obtain ⟨gb, hgb⟩ : ∃ gb, W4.heap.size = gb := ⟨_, rfl⟩
    obtain ⟨W5, hW5⟩ : ∃ W5, W4.alloc (.cells Z 28) = W5 := ⟨_, rfl⟩
    have hA5 : Arr W5 gb 28 (bytesV (List.replicate 32 0)) := by rw [← hW5, HZ.out, ← hgb]; exact Arr.made _ _ _
    obtain ⟨W6, hW6⟩ : ∃ W6, W5.setRow gb CD = W6 := ⟨_, rfl⟩
    have hb6 : Below W4.heap.size W4 W6 := by rw [← hW6, ← hW5]; exact ((Below.refl _ _).alloc (Nat.le_refl _) _).trans (below_row (Nat.le_of_eq hgb))
    have HR6 : Hid (Arr W6 gb 28 (bytesV d)) := Lib.hid (by rw [← hW6, ← HCD.out]; exact setRow_heap _ _ _ _ _ _ hA5)
    have HA6 := Lib.hid (HA4.out.later hb6 HA4.out.lt)
    have HE6 := Lib.hid (HE4.out.later hb6 HE4.out.lt)
    have HB6 := Lib.hid (Kit.step HB4.out hb6)
    have HF3 : Hid (W5.heap[gb]? = some (.cells Z 28 (0, 0))) := Lib.hid (by rw [HZ.out]; exact hA5)
    have HLG : Hid ((Tryd.prog.info? 28).map (·.size) = some CD.size) := Lib.hid (by rw [dg_info, ← HCD.out]; simp [hd])
    have HF5 : Hid (Z.size = CD.size) := Lib.hid (by rw [HZ.out, ← HCD.out]; simp [hd])
    have HF6 : Hid (CD.all (·.oneCell') = true) := Lib.hid (by rw [← HCD.out]; exact all_oneCell_toArray (bytesV_one _))
    have HW5 := Lib.hid hW5
    have HW6 := Lib.hid hW6
    have HGB := Lib.hid hgb
    clear hb4 hgb hW5 hA5 hW6 hb6 UN HX HIN HLI
    go_wp2_with (first | rw [HW5.out, HGB.out] | refine wpList_store_rowTo rfl 28 (.tmp 8) (.tmp 24) rfl rfl gb CD rfl rfl 28 Z HF3.out HLG.out HF5.out HF6.out ?_)
    rw [HW6.out]
    obtain ⟨z, hz⟩ : ∃ z, (d == List.replicate 32 0) = z := ⟨_, rfl⟩
    obtain ⟨l, hl⟩ : ∃ l, Op.bytesLess d e = l := ⟨_, rfl⟩
    obtain ⟨SD, hSD⟩ : ∃ SD : ByteArray, ⟨d.toArray⟩ = SD := ⟨_, rfl⟩
    obtain ⟨SE, hSE⟩ : ∃ SE : ByteArray, ⟨e.toArray⟩ = SE := ⟨_, rfl⟩
    obtain ⟨C, hC⟩ : ∃ C : World → Prop, (fun v => Below W6.heap.size W6 v) = C := ⟨_, rfl⟩
    have hCm : ∀ v, C v → Below W6.heap.size W6 v := fun v hv => by rw [← hC] at hv; exact hv
    have hCi : ∀ v, Below W6.heap.size W6 v → C v := fun v hv => by rw [← hC]; exact hv
    have hC0 : C { W6 with drawn := W6.drawn + 1 } := hCi _ (Kit.dn' W6 1)
    have HCm := Lib.hid hCm
    have HCi := Lib.hid hCi
    have LD : Hid (∀ v, Below W6.heap.size W6 v → v.rangeAt g 0 (bytesV d)) := Lib.hid fun v hv => (HA6.out.later hv HA6.out.lt).range 0 _ (fun j v hv => by rw [Nat.zero_add]; exact hv)
    have LE : Hid (∀ v, Below W6.heap.size W6 v → v.rangeAt (g + 1) 0 (bytesV e)) := Lib.hid fun v hv => (HE6.out.later hv HE6.out.lt).range 0 _ (fun j v hv => by rw [Nat.zero_add]; exact hv)
    have LB : Hid (∀ v, Below W6.heap.size W6 v → v.rangeAt gb 0 (bytesV d)) := Lib.hid fun v hv => (HR6.out.later hv HR6.out.lt).range 0 _ (fun j v hv => by rw [Nat.zero_add]; exact hv)
    have HLI : Hid ((Tryd.prog.info? 26).map (·.size) = some (bytesV d).length) := Lib.hid (by rw [d32_info]; simp [hd])
    have HLJ : Hid ((Tryd.prog.info? 26).map (·.size) = some (bytesV e).length) := Lib.hid (by rw [d32_info]; simp [he])
    have HLK : Hid ((Tryd.prog.info? 28).map (·.size) = some (bytesV d).length) := Lib.hid (by rw [dg_info]; simp [hd])
    have RH : Hid (∀ v, Below W6.heap.size W6 v → Calls Tryd.prog 16 #[.agg (bytesV d).toArray] v fun r w' => r = .returned (.string S) ∧ Below W6.heap.size W6 w') := Lib.hid fun v hv => by
      refine (rhex_any d hd v).mono ?_
      rintro r w' ⟨rfl, hb⟩
      exact ⟨by rw [HS.out], Kit.step hv hb⟩
    have ZE : Hid (∀ v, Below W6.heap.size W6 v → Calls Tryd.prog 17 #[.agg (bytesV d).toArray] v fun r w' => r = .returned (.bool z) ∧ Below W6.heap.size W6 w') := Lib.hid fun v hv => by
      refine (zero_any d hd v).mono ?_
      rintro r w' ⟨rfl, hb⟩
      exact ⟨by rw [hz], Kit.step hv hb⟩
    have LS : Hid (∀ v, Below W6.heap.size W6 v → Calls Tryd.prog 18 #[.agg (bytesV d).toArray, .agg (bytesV e).toArray] v fun r w' => r = .returned (.bool l) ∧ Below W6.heap.size W6 w') := Lib.hid fun v hv => by
      refine (less_any d e hd he v).mono ?_
      rintro r w' ⟨rfl, hb⟩
      exact ⟨by rw [hl], Kit.step hv hb⟩
    have CDV : Hid (∀ v, Below W6.heap.size W6 v → (convert 24 9 (.slice (some ⟨g, 0, none⟩) 32 32)).run Tryd.prog v = .ok (.string SD) v) := Lib.hid fun v hv => by
      have := run_string ((HA6.out.later hv HA6.out.lt).row (by rw [hd]; unfold maxLen; omega)) Tryd.underlying24 Tryd.underlying5 Tryd.underlying9 32
      rw [hd, hSD] at this
      exact this
    have CEV : Hid (∀ v, Below W6.heap.size W6 v → (convert 24 9 (.slice (some ⟨g + 1, 0, none⟩) 32 32)).run Tryd.prog v = .ok (.string SE) v) := Lib.hid fun v hv => by
      have := run_string ((HE6.out.later hv HE6.out.lt).row (by rw [he]; unfold maxLen; omega)) Tryd.underlying24 Tryd.underlying5 Tryd.underlying9 32
      rw [he, hSE] at this
      exact this
    have hne : ∀ W, (binOp .neq 26 (.agg (bytesV d).toArray) (.agg (bytesV d).toArray)).run Tryd.prog W = .ok (.bool false) W := fun W => by
      have h := run_equalIn_bytes (P := Tryd.prog) W 9998 26 5 32 d32_under Tryd.underlying5 (fun w => by
        obtain ⟨i0, hi, _, hz1, _⟩ := info_parts info_u8
        simp [sizeOf, typeInfo, hi, hz1]) d d hd hd
      have h' : (Op.equalIn 10000 26 (.agg (bytesV d).toArray) (.agg (bytesV d).toArray)).run Tryd.prog W = .ok (d == d) W := h
      rw [run_neq_struct, h', beq_self_eq_true]
      rfl
    have heq : ∀ W, (binOp .eql 26 (.agg (bytesV d).toArray) (.agg Z)).run Tryd.prog W = .ok (.bool z) W := fun W => by
      rw [HZ.out, ← hz]
      exact run_eql_bytes W 26 5 32 d32_under Tryd.underlying5 (fun w => by
        obtain ⟨i0, hi, _, hz1, _⟩ := info_parts info_u8
        simp [sizeOf, typeInfo, hi, hz1]) d (List.replicate 32 0) hd (by simp)
    have hbl : Op.bytesLess SD.toList SE.toList = l := by
      rw [show SD.toList = d from by rw [← hSD]; exact str_list d, show SE.toList = e from by rw [← hSE]; exact str_list e, hl]
    have hgd : Tryd.prog.eqGuardType Tryd.prog.depth 26 = false := by kernel_rfl
    obtain ⟨E1, hE1⟩ : ∃ E1, (bytesV d).toArray = E1 := ⟨_, rfl⟩
    rw [hE1] at hne heq
    clear hC hCm hCi hz hl hSD hSE
    refine wp_region_quiet (C := C) (by kernel_rfl) (by kernel_rfl) hC0 ?_
    simp only
    (refine wpQuiet_step (fun K hK => ?_); refine St.qk_val (x := ?_) (by rfl) (fun w hw => ?_) ?_; rotate_left; (· go_simp <;> with_reducible rfl); go_simp; refine hK _ ?_; clear hK K)
    (refine wpQuiet_step (fun K hK => ?_); refine St.qk_val (x := .agg (bytesV d).toArray) (by rfl) (fun w hw => St.exec_load rfl rfl (bytesV d) _ (LD.out w (HCm.out w hw)) d32_under rfl HLI.out) ?_; go_simp; refine hK _ ?_; clear hK K)
    (refine wpQuiet_step (fun K hK => ?_); refine St.qk_call (by rfl) 16 _ _ rfl #[.agg (bytesV d).toArray] (by go_simp) (fun w => by simp [go_sem]) (.string S) (fun v hv => (RH.out v (HCm.out v hv)).mono (fun e w' h => ⟨h.1, HCi.out _ h.2⟩)) ?_; go_simp; refine hK _ ?_; clear hK K)
    (refine wpQuiet_step (fun K hK => ?_); refine St.qk_val (x := ?_) (by rfl) (fun w hw => ?_) ?_; rotate_left; (· go_simp <;> with_reducible rfl); go_simp; refine hK _ ?_; clear hK K)
    (refine wpQuiet_step (fun K hK => ?_); refine St.qk_val (x := ?_) (by rfl) (fun w hw => ?_) ?_; rotate_left; (· go_simp <;> with_reducible rfl); go_simp; refine hK _ ?_; clear hK K)
    (refine wpQuiet_step (fun K hK => ?_); refine St.qk_val (x := ?_) (by rfl) (fun w hw => ?_) ?_; rotate_left; (· go_simp <;> with_reducible rfl); go_simp; refine hK _ ?_; clear hK K)
    (refine wpQuiet_step (fun K hK => ?_); refine St.qk_val (x := ?_) (by rfl) (fun w hw => ?_) ?_; rotate_left; (· go_simp <;> with_reducible rfl); go_simp; refine hK _ ?_; clear hK K)
    (refine wpQuiet_step (fun K hK => ?_); refine St.qk_val (x := ?_) (by rfl) (fun w hw => ?_) ?_; rotate_left; (· go_simp <;> with_reducible rfl); go_simp; refine hK _ ?_; clear hK K)
    (refine wpQuiet_step (fun K hK => ?_); refine St.qk_val (x := ?_) (by rfl) (fun w hw => ?_) ?_; rotate_left; (· go_simp <;> with_reducible rfl); go_simp; refine hK _ ?_; clear hK K)
    (refine wpQuiet_step (fun K hK => ?_); refine St.qk_val (x := .agg (bytesV d).toArray) (by rfl) (fun w hw => St.exec_load rfl rfl (bytesV d) _ (LB.out w (HCm.out w hw)) dg_under rfl HLK.out) ?_; go_simp; refine hK _ ?_; clear hK K)
    (refine wpQuiet_step (fun K hK => ?_); refine St.qk_val (x := .agg (bytesV d).toArray) (by rfl) (fun w hw => St.exec_load rfl rfl (bytesV d) _ (LD.out w (HCm.out w hw)) d32_under rfl HLI.out) ?_; go_simp; refine hK _ ?_; clear hK K)
    (refine wpQuiet_step (fun K hK => ?_); refine St.qk_val (x := ?_) (by rfl) (fun w hw => ?_) ?_; rotate_left; (· go_simp <;> with_reducible rfl); go_simp; refine hK _ ?_; clear hK K)
    (refine wpQuiet_step (fun K hK => ?_); refine St.qk_val (x := ?_) (by rfl) (fun w hw => ?_) ?_; rotate_left; (· go_simp <;> with_reducible rfl); go_simp; refine hK _ ?_; clear hK K)
    (refine wpQuiet_step (fun K hK => ?_); refine St.qk_val (x := ?_) (by rfl) (fun w hw => ?_) ?_; rotate_left; (· go_simp <;> with_reducible rfl); go_simp; refine hK _ ?_; clear hK K)
    (refine wpQuiet_step (fun K hK => ?_); refine St.qk_val (x := .agg (bytesV d).toArray) (by rfl) (fun w hw => St.exec_load rfl rfl (bytesV d) _ (LD.out w (HCm.out w hw)) d32_under rfl HLI.out) ?_; go_simp; refine hK _ ?_; clear hK K)
    (refine wpQuiet_step (fun K hK => ?_); refine St.qk_call (by rfl) 17 _ _ rfl #[.agg (bytesV d).toArray] (by go_simp) (fun w => by simp [go_sem]) (.bool z) (fun v hv => (ZE.out v (HCm.out v hv)).mono (fun e w' h => ⟨h.1, HCi.out _ h.2⟩)) ?_; go_simp; refine hK _ ?_; clear hK K)
    (refine wpQuiet_step (fun K hK => ?_); refine St.qk_val (x := .agg (bytesV d).toArray) (by rfl) (fun w hw => St.exec_load rfl rfl (bytesV d) _ (LD.out w (HCm.out w hw)) d32_under rfl HLI.out) ?_; go_simp; refine hK _ ?_; clear hK K)
    (refine wpQuiet_step (fun K hK => ?_); refine St.qk_val (x := .agg Z) (by rfl) (fun w hw => exec_blt rfl HBU.out w) ?_; go_simp; refine hK _ ?_; clear hK K)
    (refine wpQuiet_step (fun K hK => ?_); refine St.qk_val (x := ?_) (by rfl) (fun w hw => ?_) ?_; rotate_left; (· go_simp <;> with_reducible rfl); go_simp; refine hK _ ?_; clear hK K)
    (refine wpQuiet_step (fun K hK => ?_); refine St.qk_val (x := ?_) (by rfl) (fun w hw => ?_) ?_; rotate_left; (· go_simp <;> with_reducible rfl); go_simp; refine hK _ ?_; clear hK K)
    (refine wpQuiet_step (fun K hK => ?_); refine St.qk_val (x := ?_) (by rfl) (fun w hw => ?_) ?_; rotate_left; (· go_simp <;> with_reducible rfl); go_simp; refine hK _ ?_; clear hK K)
    (refine wpQuiet_step (fun K hK => ?_); refine St.qk_val (x := ?_) (by rfl) (fun w hw => ?_) ?_; rotate_left; (· go_simp <;> with_reducible rfl); go_simp; refine hK _ ?_; clear hK K)
    (refine wpQuiet_step (fun K hK => ?_); refine St.qk_val (x := .agg (bytesV d).toArray) (by rfl) (fun w hw => St.exec_load rfl rfl (bytesV d) _ (LD.out w (HCm.out w hw)) d32_under rfl HLI.out) ?_; go_simp; refine hK _ ?_; clear hK K)
    (refine wpQuiet_step (fun K hK => ?_); refine St.qk_val (x := .agg (bytesV e).toArray) (by rfl) (fun w hw => St.exec_load rfl rfl (bytesV e) _ (LE.out w (HCm.out w hw)) d32_under rfl HLJ.out) ?_; go_simp; refine hK _ ?_; clear hK K)
    (refine wpQuiet_step (fun K hK => ?_); refine St.qk_call (by rfl) 18 _ _ rfl #[.agg (bytesV d).toArray, .agg (bytesV e).toArray] (by go_simp) (fun w => by simp [go_sem]) (.bool l) (fun v hv => (LS.out v (HCm.out v hv)).mono (fun e w' h => ⟨h.1, HCi.out _ h.2⟩)) ?_; go_simp; refine hK _ ?_; clear hK K)
    (refine wpQuiet_step (fun K hK => ?_); refine St.qk_val (x := ?_) (by rfl) (fun w hw => ?_) ?_; rotate_left; (· go_simp <;> with_reducible rfl); go_simp; refine hK _ ?_; clear hK K)
    (refine wpQuiet_step (fun K hK => ?_); refine St.qk_val (x := .string SD) (by rfl) (fun w hw => St.exec_conv rfl (CDV.out w (HCm.out w hw))) ?_; go_simp; refine hK _ ?_; clear hK K)
    (refine wpQuiet_step (fun K hK => ?_); refine St.qk_val (x := ?_) (by rfl) (fun w hw => ?_) ?_; rotate_left; (· go_simp <;> with_reducible rfl); go_simp; refine hK _ ?_; clear hK K)
    (refine wpQuiet_step (fun K hK => ?_); refine St.qk_val (x := .string SE) (by rfl) (fun w hw => St.exec_conv rfl (CEV.out w (HCm.out w hw))) ?_; go_simp; refine hK _ ?_; clear hK K)
    (refine wpQuiet_step (fun K hK => ?_); refine St.qk_val (x := ?_) (by rfl) (fun w hw => ?_) ?_; rotate_left; (· go_simp <;> with_reducible rfl); go_simp; refine hK _ ?_; clear hK K)
    (refine wpQuiet_step (fun K hK => ?_); refine St.qk_val (x := ?_) (by rfl) (fun w hw => ?_) ?_; rotate_left; (· go_simp <;> with_reducible rfl); go_simp; refine hK _ ?_; clear hK K)
    (refine wpQuiet_step (fun K hK => ?_); refine St.qk_val (x := ?_) (by rfl) (fun w hw => ?_) ?_; rotate_left; (· go_simp <;> with_reducible rfl); go_simp; refine hK _ ?_; clear hK K)
    refine wpQuiet_nil ?_
    intro W7 hW7
    have hb7 := HCm.out W7 hW7
    have HB7 := Lib.hid (Kit.step HB6.out hb7)
    clear hW7 hb7 hne heq RH ZE LS CDV CEV LD LE LB hC0 HCm HCi HF3 HF5 HF6 HW5 HW6
    go_wp2_with fail
    clear hbl
    go_loopw [10, 11] (fun r i wr => St1 s W7 r i wr) (fun _ i _ => s.size - (intOf i).toNat)
    case atStart =>
      refine ⟨0, Nat.zero_le _, rfl, ?_, rfl⟩
      rw [List.take_zero, List.all_nil, Bool.and_true]
      refine congrArg Value.bool ?_
      by_cases h : s.size = 64
      · rw [h]; rfl
      · rw [decide_eq_false h]; exact beq_false_of_ne (by omega)
    case round =>
      rename World => V
      obtain ⟨k, hk, rfl, rfl, hV⟩ := hrel
      by_cases hlt : k < s.size
      · have hd1 : decide ((k : Int) < (s.size : Int)) = true := by simpa using hlt
        have hll : k < s.data.toList.length := hlt
        obtain ⟨c, hc⟩ : ∃ c, s.data.toList.getD k 0 = c := ⟨_, rfl⟩
        have hix : ∀ W, (Instr.index 9 (.string s) (.int .i64 (k : Int))).run Tryd.prog W = .ok (.int .u8 (c.toNat : Int)) W := fun W => by
          rw [run_index_string W 9 s .i64 (k : Int) Tryd.underlying9, dif_pos (by omega)]
          have : s[(k : Int).toNat]'(by omega) = c := by
            rw [← hc, getD_at _ _ hll]
            rfl
          rw [this]
        have HST : Hid ((s.data.toList.take (k + 1)).all isF = ((s.data.toList.take k).all isF && isF c)) := Lib.hid (by
          rw [List.take_add_one, List.getElem?_eq_getElem hll, ← getD_at _ _ hll, hc]
          simp)
        have HV := Lib.hid hV
        have hcl := UInt8.toNat_lt c
        clear hV hc
        have HIF : Hid (isF c = ((decide (48 ≤ c.toNat) && decide (c.toNat ≤ 57)) || (decide (97 ≤ c.toNat) && decide (c.toNat ≤ 102)))) := Lib.hid rfl
        obtain ⟨r, hr⟩ : ∃ r, (decide (s.size = 64) && (s.data.toList.take k).all isF) = r := ⟨_, rfl⟩
        have HRR := Lib.hid hr
        rw [hr]
        clear hr
        have fin : ∀ b : Bool, b = (r && isF c) → St1 s W7 (.bool b) (.int .i64 ((k : Int) + 1)) V := fun b hb => ⟨k + 1, by omega, by go_num, by rw [HST.out, ← Bool.and_assoc, HRR.out, hb], HV.out⟩
        have FIN := Lib.hid fin
        clear fin
        cases r with
        | false =>
          go_wp2_with fail
          exact ⟨FIN.out false rfl, by simp [intOf]; omega⟩
        | true =>
          by_cases q1 : 48 ≤ c.toNat
          · have z1 : (c.toNat : Int) ≥ 48 := by omega
            by_cases q2 : c.toNat ≤ 57
            · have z2 : (c.toNat : Int) ≤ 57 := by omega
              go_wp2_with fail
              exact ⟨FIN.out true (by rw [HIF.out]; simp [q1, q2]), by simp [intOf]; omega⟩
            · have z2 : ¬ (c.toNat : Int) ≤ 57 := by omega
              by_cases q3 : 97 ≤ c.toNat
              · have z3 : (c.toNat : Int) ≥ 97 := by omega
                by_cases q4 : c.toNat ≤ 102
                · have z4 : (c.toNat : Int) ≤ 102 := by omega
                  go_wp2_with fail
                  exact ⟨FIN.out true (by rw [HIF.out]; simp [q1, q2, q3, q4]), by simp [intOf]; omega⟩
                · have z4 : ¬ (c.toNat : Int) ≤ 102 := by omega
                  go_wp2_with fail
                  exact ⟨FIN.out false (by rw [HIF.out]; simp [q1, q2, q3, q4]), by simp [intOf]; omega⟩
              · have z3 : ¬ (c.toNat : Int) ≥ 97 := by omega
                go_wp2_with fail
                exact ⟨FIN.out false (by rw [HIF.out]; simp [q1, q2, q3]), by simp [intOf]; omega⟩
          · have z1 : ¬ (c.toNat : Int) ≥ 48 := by omega
            have q3 : ¬ 97 ≤ c.toNat := by omega
            have z3 : ¬ (c.toNat : Int) ≥ 97 := by omega
            go_wp2_with fail
            exact ⟨FIN.out false (by rw [HIF.out]; simp [q1, q3]), by simp [intOf]; omega⟩
      · obtain rfl : k = s.size := by omega
        have hV' := hV
        subst hV'
        have hra : (decide (s.size = 64) && (s.data.toList.take s.size).all isF) = isD s.data.toList := by
          rw [show s.data.toList.take s.size = s.data.toList from List.take_of_length_le (Nat.le_refl _)]; rfl
        rw [hra]
        clear hra hV hlt hk
        have hE7 := HE.out.later HB7.out
        have UN := Lib.hid (unhex_any s (A 3) V hE7.c3 (St.cell_lt hE7.c3) (by omega))
        clear hE7
        cases hq : isD s.data.toList with
        | false =>
          go_wp2_with fail
          refine UN.out.mono ?_
          rintro r W8 ⟨_, h2, hb8⟩
          obtain rfl := h2 hq
          clear h2 UN
          obtain ⟨ZZ, hZZ⟩ : ∃ ZZ, (bytesV (List.replicate 32 0)).toArray = ZZ := ⟨_, rfl⟩
          have hzz : ∀ W, (binOp .eql 28 (.agg ZZ) (.agg Z)).run Tryd.prog W = .ok (.bool true) W := fun W => by
            have := dg_eql (List.replicate 32 0) (List.replicate 32 0) (by simp) (by simp) W
            rw [beq_self_eq_true] at this
            rw [← hZZ, HZ.out]
            exact this
          rw [hZZ]
          have hgd2 := dg_guard
          obtain ⟨gx, hgx⟩ : ∃ gx, W8.heap.size = gx := ⟨_, rfl⟩
          obtain ⟨W9, hW9⟩ : ∃ W9, W8.alloc (.cells Z 28) = W9 := ⟨_, rfl⟩
          have hA9 : Arr W9 gx 28 (bytesV (List.replicate 32 0)) := by rw [← hW9, HZ.out, ← hgx]; exact Arr.made _ _ _
          obtain ⟨WA, hWA⟩ : ∃ WA, W9.setRow gx ZZ = WA := ⟨_, rfl⟩
          have hbA : Below W8.heap.size W8 WA := by rw [← hWA, ← hW9]; exact ((Below.refl _ _).alloc (Nat.le_refl _) _).trans (below_row (Nat.le_of_eq hgx))
          have HRA : Hid (WA.heap[gx]? = some (.cells ZZ 28 (0, 0))) := Lib.hid (by rw [← hWA]; exact setRow_heap _ _ _ _ _ _ hA9)
          have HBA := Lib.hid (Kit.step (Kit.step HB7.out hb8) hbA)
          have HF3 : Hid (W9.heap[gx]? = some (.cells Z 28 (0, 0))) := Lib.hid (by rw [HZ.out]; exact hA9)
          have HXI : Hid ((Tryd.prog.info? 28).map (·.size) = some (ZZ).size) := Lib.hid (by rw [dg_info, ← hZZ]; simp [uhL_length])
          have HXS : Hid (Z.size = (ZZ).size) := Lib.hid (by first | rfl | (rw [HZ.out, ← hZZ]; done) | (rw [HZ.out, ← hZZ]; simp [uhL_length]))
          have HXO : Hid ((ZZ).all (·.oneCell') = true) := Lib.hid (by rw [← hZZ]; exact all_oneCell_toArray (bytesV_one _))
          have HW9 := Lib.hid hW9
          have HWA := Lib.hid hWA
          have HGX := Lib.hid hgx
          clear hgx hW9 hA9 hWA hbA hb8
          clear hZZ
          have NU := Lib.hid (Er.num_of A 3 (by decide) WA (HE.out.later HBA.out))
          go_wp2_with (first | rw [HW9.out, HGX.out] | refine wpList_store_rowTo rfl 28 (.tmp 13) (.tmp 90) rfl rfl gx ZZ rfl rfl 28 Z HF3.out HXI.out HXS.out HXO.out ?_ | rw [HWA.out] | refine wpList_load_row rfl 28 (.tmp 13) rfl gx rfl 28 ZZ (0, 0) _ HRA.out dg_under rfl HXI.out ?_ | refine wpList_built rfl 28 _ rfl [] (by simp) Z HBG.out ?_ | (go_at_call 19; refine NU.out.mono ?_; rintro r WB ⟨rfl, hbB⟩))
          go_ret
          exact ⟨rfl, Kit.step HBA.out hbB⟩
        | true =>
          go_wp2_with fail
          refine UN.out.mono ?_
          rintro r W8 ⟨h1, _, hb8⟩
          obtain rfl := h1 hq
          clear h1 UN
          obtain ⟨XX, hXX⟩ : ∃ XX, (bytesV (uhL s.data.toList)).toArray = XX := ⟨_, rfl⟩
          have HEX : Hid (∀ v, Calls Tryd.prog 14 #[.agg XX] v fun r w' => r = .returned (.string s) ∧ Below v.heap.size v w') := Lib.hid fun v => by
            have := hex_any (uhL s.data.toList) (uhL_length _) v
            rw [hex_uh _ hq, hXX] at this
            exact this
          rw [hXX]
          obtain ⟨gx, hgx⟩ : ∃ gx, W8.heap.size = gx := ⟨_, rfl⟩
          obtain ⟨W9, hW9⟩ : ∃ W9, W8.alloc (.cells Z 28) = W9 := ⟨_, rfl⟩
          have hA9 : Arr W9 gx 28 (bytesV (List.replicate 32 0)) := by rw [← hW9, HZ.out, ← hgx]; exact Arr.made _ _ _
          obtain ⟨WA, hWA⟩ : ∃ WA, W9.setRow gx XX = WA := ⟨_, rfl⟩
          have hbA : Below W8.heap.size W8 WA := by rw [← hWA, ← hW9]; exact ((Below.refl _ _).alloc (Nat.le_refl _) _).trans (below_row (Nat.le_of_eq hgx))
          have HRA : Hid (WA.heap[gx]? = some (.cells XX 28 (0, 0))) := Lib.hid (by rw [← hWA]; exact setRow_heap _ _ _ _ _ _ hA9)
          have HBA := Lib.hid (Kit.step (Kit.step HB7.out hb8) hbA)
          have HF3 : Hid (W9.heap[gx]? = some (.cells Z 28 (0, 0))) := Lib.hid (by rw [HZ.out]; exact hA9)
          have HXI : Hid ((Tryd.prog.info? 28).map (·.size) = some (XX).size) := Lib.hid (by rw [dg_info, ← hXX]; simp [uhL_length])
          have HXS : Hid (Z.size = (XX).size) := Lib.hid (by first | rfl | (rw [HZ.out, ← hXX]; done) | (rw [HZ.out, ← hXX]; simp [uhL_length]))
          have HXO : Hid ((XX).all (·.oneCell') = true) := Lib.hid (by rw [← hXX]; exact all_oneCell_toArray (bytesV_one _))
          have HW9 := Lib.hid hW9
          have HWA := Lib.hid hWA
          have HGX := Lib.hid hgx
          clear hgx hW9 hA9 hWA hbA hb8
          clear hXX
          go_wp2_with (first | rw [HW9.out, HGX.out] | refine wpList_store_rowTo rfl 28 (.tmp 13) (.tmp 90) rfl rfl gx XX rfl rfl 28 Z HF3.out HXI.out HXS.out HXO.out ?_ | rw [HWA.out] | refine BigFrame.wpList_want (by rfl) fun K hK => wp_load_row 28 (.tmp 13) rfl gx rfl 28 XX (0, 0) _ HRA.out dg_under rfl HXI.out (hK _ _ ?_) | (go_at_call 14; refine (HEX.out _).mono ?_; rintro r WB ⟨rfl, hbB⟩))
          go_ret
          exact ⟨rfl, Kit.step HBA.out hbB⟩
theorem st_any (d e : List UInt8) (hd : d.length = 32) (he : e.length = 32) (s : ByteArray) (hs : s.size ≤ 9223372036854775807) (W : World) (A : Nat → Addr) (hE : Er.Errs W A) (hC : Cds W) :
    Calls Tryd.prog 4 #[.agg (bytesV d).toArray, .string s, .agg (bytesV e).toArray] W fun r w' => r = .returned (.bool true) ∧ Below W.heap.size W w' := st_of _ rfl dg_zero d32_built dg_built d e hd he s hs W A hE hC
end Go.Proofs.YtalilmnpobgffaaDoor
