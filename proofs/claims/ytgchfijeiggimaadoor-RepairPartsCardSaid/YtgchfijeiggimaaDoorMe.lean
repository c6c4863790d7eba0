/- The code's register: the mended polynomial. -/
import Derived.Test.YtgchfijeiggimaaDoorRk
import Derived.Deep.RegionHeld3
namespace Go.Proofs.YtgchfijeiggimaaDoor
open Go.RowKit
set_option linter.unusedVariables false
set_option linter.unusedSimpArgs false
/-- the mended polynomial, as the code writes it -/
theorem mend_mix (C B : List UInt8) (a : UInt8) (x n : Nat) (h1 : C.length ≤ n) (h2 : x + B.length ≤ n) (hn : n = max C.length (x + B.length)) : mix (splice (List.replicate n 0) 0 C) x B a = Gf.mendL C B a x := by
  have hl : (splice (List.replicate n (0 : UInt8)) 0 C).length = n := by rw [length_splice _ _ _ (by simp only [List.length_replicate]; omega)]; simp
  refine list_ext (by rw [mix_length, hl, Gf.mendL_length, hn]) fun i hi => ?_
  rw [mix_length, hl] at hi
  rw [co_mix _ _ _ _ _ (by omega), co_splice _ _ _ _ (by simp only [List.length_replicate]; omega), Gf.co_mendL, zeros_co]
  unfold Gf.mend
  congr 1
  · rw [Nat.sub_zero]
    split
    · rfl
    · exact (co_ge (by omega)).symm
  · unfold Gf.ps
    split
    · rw [Gf.gm_comm]
    · rw [Gf.gm_zero]
section
variable {P : Program} {ops : Array Oper} {Q : Exit → Act → World → Prop} {i : Nat} {o : Oper} {b : Act} {v v' : World} {x : Value} {K : Act → World → Prop}
theorem op_val (ho : ops[i]? = some o) (hg : o.guard = none) (h : (execOp b.eval o).run P v = .ok (.value x) v) (hk : K (b.put o.dst x) v) : wpOp P ops Q i K b v := by
  unfold wpOp
  rw [ho]
  dsimp only
  rw [if_pos (by simp [Region.wanted, hg])]
  refine .inl ?_
  unfold Oper.wp
  rw [h]
  exact hk
theorem op_put {d : Tmp} (ho : ops[i]? = some o) (hd : o.dst = some d) (hg : o.guard = none) (h : (execOp b.eval o).run P v = .ok (.value x) v) (hk : K { b with tmps := b.tmps.setIfInBounds d x } v) : wpOp P ops Q i K b v :=
  op_val ho hg h (by rw [hd]; exact hk)
theorem op_call {d : Tmp} {f : FuncId} {xs : Array Operand} {ts : Array TypeId} {args : Array Value} {R : Value → World → Prop} (ho : ops[i]? = some o) (hd : o.dst = some d) (hg : o.guard = none)
    (hop : o.op = .call { callee := .value (.func f), args := xs, argTypes := ts }) (ek : ∀ args w, (callFunc f args).run P w = .ok (.enter f args) w) (ha : xs.map b.eval = args) (hc : Calls P f args v fun e v' => ∃ x, e = .returned x ∧ R x v') (h : ∀ x v', R x v' → K { b with tmps := b.tmps.setIfInBounds d x } v') : wpOp P ops Q i K b v :=
  Rg.op_fn ho hg hop ek ha hc fun x v' hR => by rw [hd]; exact h x v' hR
theorem takeH {md : Region.Mode} {S : World → Prop} {d : Tmp} {fuel : Nat} {listed : Array Bool} (hi : ops[i]? = some o) (hd : o.dst = some d)
    (hs : Region.noSelect ops = true) (hf : Region.free md ops listed i = true) (hr : (Region.ready md ops listed).contains i = true)
    (hQ : ∀ c a w, Q (.panic c) (a.put o.dst x) w → Q (.panic c) a w) (hy : YieldsIf P ops S o x b) (hS : S v)
    (h : wpAnyH P md ops Q S fuel (listed.setIfInBounds i true) { b with tmps := b.tmps.setIfInBounds d x } v) : wpAnyH P md ops Q S (fuel + 1) listed b v :=
  wpAnyH_take hi hs hf hr hQ hy hS (by rw [hd]; exact h)
theorem op_skip (ho : ops[i]? = some o) (hg : o.guard = none) (hd : o.dst = none) (h : (execOp b.eval o).run P v = .ok .skip v') (hk : K b v') : wpOp P ops Q i K b v := by
  unfold wpOp
  rw [ho]
  dsimp only
  rw [if_pos (by simp [Region.wanted, hg])]
  refine .inl ?_
  unfold Oper.wp
  rw [h]
  show K (b.put o.dst undef) _
  rw [hd]
  exact hk
end
def MeAt (w0 : World) (g n x : Nat) (a : UInt8) (ys B : List UInt8) (i : Value) (wr : World) : Prop :=
  ∃ k : Nat, k ≤ B.length ∧ i = .int .i64 k ∧ Buf wr g n (mix ys x (B.take k) a) ∧ Only g w0 wr
set_option maxRecDepth 100000 in
set_option maxHeartbeats 4000000 in
theorem mended_any (b T : Nat) (Ct : Array Value) (C B : List UInt8) (a : UInt8) (x : Nat) (oC oB : Option Addr) (cC cB : Nat) (w : World) (hT : TabAt w T Ct) (hqt : Boxed w b 80 (.pointer (some ⟨T, 0, none⟩)))
    (hqn : Boxed w (b + 2) 22 (.slice oC C.length cC)) (hqa : Boxed w (b + 7) 3 (.int .i64 (x : Int))) (hqo : Boxed w (b + 5) 22 (.slice oB B.length cB))
    (hC : RowIs w oC (bytesV C) cC) (hB : RowIs w oB (bytesV B) cB) (hx : x ≤ 1000) (hl1 : C.length ≤ 1000) (hl2 : B.length ≤ 1000) :
    Calls Tryd.prog 84 #[.int .u8 (a.toNat : Int), .pointer (some ⟨b + 2, 0, none⟩), .pointer (some ⟨b + 7, 0, none⟩), .pointer (some ⟨b + 5, 0, none⟩), .pointer (some ⟨b, 0, none⟩)] w fun e w' =>
      ∃ g cap, e = .returned (.slice (some ⟨g, 0, none⟩) (Gf.mendL C B a x).length cap) ∧ w.heap.size ≤ g ∧ Below w.heap.size w w' ∧ RowIs w' (some ⟨g, 0, none⟩) (bytesV (Gf.mendL C B a x)) cap := by
  obtain ⟨i0, hi, hz0, hz1, hz2⟩ := info_parts info_u8
  have h1 := hC.le
  have h2 := hC.cap
  have h3 := hB.le
  have h4 := hB.cap
  simp only [bytesV_length] at h1 h3
  unfold maxLen at h2 h4
  have hc0 := hqt.cell
  have hc2 := hqn.cell
  have hc5 := hqo.cell
  have hc7 := hqa.cell
  have hb7 := hqa.lt
  have HT := Lib.hid hT
  have HQT := Lib.hid hqt
  have HQN := Lib.hid hqn
  have HQA := Lib.hid hqa
  have HQO := Lib.hid hqo
  have HC := Lib.hid hC
  have HB := Lib.hid hB
  have hTn : T ≠ w.heap.size := by have := (Array.getElem?_eq_some_iff.1 hT.block).1; omega
  clear hT hqt hqn hqa hqo hC hB
  have HPOS : Hid (∀ w1, Below w.heap.size w w1 → 0 < (bytesV C).length → ∃ ad, oC = some ad ∧ ∀ j v, (bytesV C)[j]? = some v → w1.cell? (ad.add j) = some v) := Lib.hid fun w1 hb h0 => by
    have hr := HC.out.later hb
    obtain ⟨b, off, rfl, _, _⟩ := hr.cells h0
    exact ⟨_, rfl, hr.adds _ rfl⟩
  have hws : IntKind.i64.wrap ((x : Int) + (B.length : Int)) = (x : Int) + (B.length : Int) := by rw [IntKind.wrap_i64]; omega
  obtain ⟨y, hy⟩ : ∃ y, x + B.length = y := ⟨_, rfl⟩
  have hyi : (x : Int) + (B.length : Int) = (y : Int) := by omega
  rw [hyi] at hws
  have HY := Lib.hid hy
  by_cases hcy : C.length < y
  · have hpi : (C.length : Int) < (y : Int) := by omega
    have HN : Hid (y = max C.length (x + B.length)) := Lib.hid (by omega)
    have hn1 : C.length ≤ y := by omega
    have hn2 : x + B.length ≤ y := by omega
    clear hcy hy
    go_enter Tryd.func84, Tryd.ntmps84
    go_wp2_with (at_make; go_loud (refine wpList_make_full _ rfl _ _ 22 rfl 0 5 i0 (.int .u8 0) 1 Tryd.underlying22 hi hz0 hz1 _ _ _ _ y rfl rfl (by omega) (by omega) (by rw [hz2]; omega) (by unfold maxLen; omega) (Nat.zero_le _) ?_))
    intro w1 hown hgrow
    have hb1 : Below w.heap.size w w1 := (Below.refl _ _).grown hgrow (Nat.le_refl _) (fun k h => by cases h)
    have hfull : Full w1 w.heap.size (List.replicate y 0) := (buf_made hown).full (by simp)
    have HB1 := Lib.hid hb1
    have HF1 := Lib.hid hfull
    have hc2b := (boxed_later HQN.out hb1).cell
    clear hown hgrow hb1 hfull
    go_wp2_with (refine wpList_copy_splice rfl (.tmp 18) (.tmp 19) 22 22 rfl 5 Tryd.underlying22 (by rw [hi]; simp [hz1]) _ _ _ _ _ _ rfl rfl w.heap.size 0 (bytesV (List.replicate y 0)) 5 HF1.out (bytesV C) (by simp only [bytesV_length]; exact (Nat.min_eq_left (by omega)).symm) (fun h0 => ⟨rfl, HPOS.out _ HB1.out h0⟩) (by rw [bytesV_length, bytesV_length, List.length_replicate]; omega) (bytesV_one C) w.heap.size w HB1.out (Nat.le_refl _) ?_)
    intro w2 hfull2 hb2
    have hmixl : (splice (List.replicate y (0 : UInt8)) 0 C).length = y := by rw [length_splice _ _ _ (by simp only [List.length_replicate]; omega)]; simp
    have hbuf : Buf w2 w.heap.size y (splice (List.replicate y 0) 0 C) := by
      have h : Full w2 w.heap.size (splice (List.replicate y 0) 0 C) := by unfold Full; rw [← splice_bytes]; exact hfull2
      have := h.buf (by rw [hmixl]; unfold maxLen; omega)
      rw [hmixl] at this
      exact this
    have HMM := Lib.hid (mend_mix C B a x y hn1 hn2 HN.out)
    obtain ⟨ys, hys⟩ : ∃ ys, splice (List.replicate y (0 : UInt8)) 0 C = ys := ⟨_, rfl⟩
    rw [hys] at hbuf hmixl HMM
    have HAP := Lib.hid (HB.out.apart (g := w.heap.size) (Nat.le_refl _))
    have HBUF := Lib.hid hbuf
    have HB2 := Lib.hid hb2
    have hc5b := (boxed_later HQO.out hb2).cell
    have HC0 := Lib.hid (boxed_later HQT.out hb2)
    have HC7 := Lib.hid (boxed_later HQA.out hb2)
    have HT2 := Lib.hid (HT.out.later hb2)
    have HR2 := Lib.hid (HB.out.later hb2)
    clear hfull2 hb2 hbuf hys hc0 hc2 hc5 hc7
    go_wp2_with fail
    clear hc2b hc5b
    go_loopw [8, 9, 23] (fun _ _ i wr => MeAt w2 w.heap.size y x a ys B i wr) (fun _ _ i _ => B.length - (intOf i).toNat)
    case atStart => exact ⟨0, Nat.zero_le _, rfl, by rw [mix_zero]; exact HBUF.out, Only.refl _ _⟩
    case round =>
      obtain ⟨k, hk, rfl, hb, ho⟩ := hrel
      by_cases hlt : k < B.length
      · obtain ⟨b1, off1, rfl, hb1, hcell⟩ := (ho.row HR2.out HAP.out).cells (by simp; omega)
        have hc1 : wr.cell? ⟨b1, off1 + k, none⟩ = some (.int .u8 ((co B k).toNat : Int)) := hcell k _ (bytesV_get B k hlt)
        have hq7 : Boxed wr (b + 7) 3 (.int .i64 (x : Int)) := HC7.out.kept ho (by simp; omega)
        have hq0 : Boxed wr b 80 (.pointer (some ⟨T, 0, none⟩)) := HC0.out.kept ho (by simp; omega)
        obtain ⟨m, hm⟩ : ∃ m, x + k = m := ⟨_, rfl⟩
        have hs2 := hb.cell (x + k) (by simp; omega)
        have hf2 := hb.frozen (x + k)
        have HMX := Lib.hid (mix_step ys x B a k hlt (by omega))
        have hst := fun (v : World) (hv : Kit.Dn wr v) => (hb.later hv.below).store (x + k) (co (mix ys x (B.take k) a) (x + k) ^^^ Gf.gm (co B k) a)
        rw [HMX.out] at hst
        have hwm : IntKind.i64.wrap ((x : Int) + (k : Int)) = (m : Int) := by rw [IntKind.wrap_i64]; omega
        rw [hm] at hs2 hf2 hst
        have HTW := Lib.hid (ho.tab HT2.out hTn)
        have MC : Hid (∀ v : World, TabAt v T Ct → Calls Tryd.prog 69 #[.pointer (some ⟨T, 0, none⟩), .int .u8 ((co B k).toNat : Int), .int .u8 (a.toNat : Int)] v fun e w' => e = .returned (.int .u8 ((Gf.gm (co B k) a).toNat : Int)) ∧ ∃ m, w' = v.drewN m) := Lib.hid fun v hv => tmul_dn (co B k) a T Ct v hv
        generalize co (mix ys x (B.take k) a) m = s at *
        generalize Gf.gm (co B k) a = u at *
        generalize co B k = z at *
        have hzl := UInt8.toNat_lt z
        have hsl := UInt8.toNat_lt s
        have hal := UInt8.toNat_lt a
        have hul := UInt8.toNat_lt u
        have AC : Hid (∀ v : World, Calls Tryd.prog 56 #[.int .u8 (s.toNat : Int), .int .u8 (u.toNat : Int)] v fun e w' => e = .returned (.int .u8 ((s ^^^ u).toNat : Int)) ∧ w' = v) := Lib.hid fun v => add_u8 s u v
        generalize s ^^^ u = r at *
        have hca := hq7.cell
        have hct := hq0.cell
        have HK : Hid (∀ v, Kit.Dn wr v → v.cell? ⟨b + 7, 0, none⟩ = some (.int .i64 (x : Int)) ∧ v.cell? ⟨b, 0, none⟩ = some (.pointer (some ⟨T, 0, none⟩))) := Lib.hid fun v hv => ⟨(boxed_later hq7 hv.below).cell, (boxed_later hq0 hv.below).cell⟩
        have HK2 : Hid (∀ v, Kit.Dn wr v → (v.setCell ⟨w.heap.size, m, none⟩ (.int .u8 (r.toNat : Int))).cell? ⟨b + 7, 0, none⟩ = some (.int .i64 (x : Int)) ∧ (v.setCell ⟨w.heap.size, m, none⟩ (.int .u8 (r.toNat : Int))).cell? ⟨b, 0, none⟩ = some (.pointer (some ⟨T, 0, none⟩))) := Lib.hid fun v hv => ⟨((boxed_later hq7 hv.below).kept (hst v hv).2 (by simp; omega)).cell, ((boxed_later hq0 hv.below).kept (hst v hv).2 (by simp; omega)).cell⟩
        have HS := Lib.hid hst
        have HO := Lib.hid ho
        have hm0 : (0 : Int) ≤ (m : Int) := by omega
        have hm1 : (m : Int) < (y : Nat) := by omega
        have HM := Lib.hid hm
        clear hcell hb ho hst HMX hm hq7 hq0
        go_wp2_with fail
        have HCE : Hid (wr.cell? ⟨w.heap.size, m, none⟩ = some (.int .u8 (s.toNat : Int))) := Lib.hid hs2
        have HFR : Hid (wr.frozen? ⟨w.heap.size, m, none⟩ = false) := Lib.hid hf2
        refine wp_region_noPanic ?_
        refine wp_region_held_drew (S := (fun w' => w'.cell? ⟨b + 7, 0, none⟩ = some (.int .i64 (x : Int)) ∧ w'.cell? ⟨b, 0, none⟩ = some (.pointer (some ⟨T, 0, none⟩)))) (by kernel_rfl) (HK.out _ ⟨1, rfl⟩) (fun hHeld => ?_)
        clear hs2 hf2 hc1
        refine takeH (i := 0) (x := .slice (some ⟨w.heap.size, 0, none⟩) y y) rfl rfl (by kernel_rfl) (by kernel_rfl) (by kernel_rfl) (fun _ _ _ h => h) (Or.inl ⟨by rfl, fun w hSw => by (try dsimp only at hSw); obtain ⟨hs7, hs0⟩ := hSw; (go_simp <;> with_reducible rfl)⟩) (by assumption) ?_
        simp only [List.setIfInBounds_toArray, List.set_cons_zero, List.set_cons_succ]
        refine takeH (i := 1) (x := .int .i64 (x : Int)) rfl rfl (by kernel_rfl) (by kernel_rfl) (by kernel_rfl) (fun _ _ _ h => h) (Or.inl ⟨by rfl, fun w hSw => by (try dsimp only at hSw); obtain ⟨hs7, hs0⟩ := hSw; (go_simp <;> with_reducible rfl)⟩) (by assumption) ?_
        simp only [List.setIfInBounds_toArray, List.set_cons_zero, List.set_cons_succ]
        refine takeH (i := 2) (x := .int .i64 (k : Int)) rfl rfl (by kernel_rfl) (by kernel_rfl) (by kernel_rfl) (fun _ _ _ h => h) (Or.inl ⟨by rfl, fun w hSw => by (try dsimp only at hSw); obtain ⟨hs7, hs0⟩ := hSw; (go_simp <;> with_reducible rfl)⟩) (by assumption) ?_
        simp only [List.setIfInBounds_toArray, List.set_cons_zero, List.set_cons_succ]
        refine takeH (i := 3) (x := .int .i64 (m : Int)) rfl rfl (by kernel_rfl) (by kernel_rfl) (by kernel_rfl) (fun _ _ _ h => h) (Or.inl ⟨by rfl, fun w hSw => by (try dsimp only at hSw); obtain ⟨hs7, hs0⟩ := hSw; (go_simp <;> with_reducible rfl)⟩) (by assumption) ?_
        simp only [List.setIfInBounds_toArray, List.set_cons_zero, List.set_cons_succ]
        refine takeH (i := 4) (x := .slice (some ⟨w.heap.size, 0, none⟩) y y) rfl rfl (by kernel_rfl) (by kernel_rfl) (by kernel_rfl) (fun _ _ _ h => h) (Or.inl ⟨by rfl, fun w hSw => by (try dsimp only at hSw); obtain ⟨hs7, hs0⟩ := hSw; (go_simp <;> with_reducible rfl)⟩) (by assumption) ?_
        simp only [List.setIfInBounds_toArray, List.set_cons_zero, List.set_cons_succ]
        refine takeH (i := 5) (x := .int .i64 (x : Int)) rfl rfl (by kernel_rfl) (by kernel_rfl) (by kernel_rfl) (fun _ _ _ h => h) (Or.inl ⟨by rfl, fun w hSw => by (try dsimp only at hSw); obtain ⟨hs7, hs0⟩ := hSw; (go_simp <;> with_reducible rfl)⟩) (by assumption) ?_
        simp only [List.setIfInBounds_toArray, List.set_cons_zero, List.set_cons_succ]
        refine takeH (i := 6) (x := .int .i64 (k : Int)) rfl rfl (by kernel_rfl) (by kernel_rfl) (by kernel_rfl) (fun _ _ _ h => h) (Or.inl ⟨by rfl, fun w hSw => by (try dsimp only at hSw); obtain ⟨hs7, hs0⟩ := hSw; (go_simp <;> with_reducible rfl)⟩) (by assumption) ?_
        simp only [List.setIfInBounds_toArray, List.set_cons_zero, List.set_cons_succ]
        refine takeH (i := 7) (x := .int .i64 (m : Int)) rfl rfl (by kernel_rfl) (by kernel_rfl) (by kernel_rfl) (fun _ _ _ h => h) (Or.inl ⟨by rfl, fun w hSw => by (try dsimp only at hSw); obtain ⟨hs7, hs0⟩ := hSw; (go_simp <;> with_reducible rfl)⟩) (by assumption) ?_
        simp only [List.setIfInBounds_toArray, List.set_cons_zero, List.set_cons_succ]
        refine takeH (i := 8) (x := .pointer (some ⟨w.heap.size, m, none⟩)) rfl rfl (by kernel_rfl) (by kernel_rfl) (by kernel_rfl) (fun _ _ _ h => h) (Or.inl ⟨by rfl, fun w hSw => by (try dsimp only at hSw); obtain ⟨hs7, hs0⟩ := hSw; (go_simp <;> with_reducible rfl)⟩) (by assumption) ?_
        simp only [List.setIfInBounds_toArray, List.set_cons_zero, List.set_cons_succ]
        refine takeH (i := 10) (x := .pointer (some ⟨T, 0, none⟩)) rfl rfl (by kernel_rfl) (by kernel_rfl) (by kernel_rfl) (fun _ _ _ h => h) (Or.inl ⟨by rfl, fun w hSw => by (try dsimp only at hSw); obtain ⟨hs7, hs0⟩ := hSw; (go_simp <;> with_reducible rfl)⟩) (by assumption) ?_
        simp only [List.setIfInBounds_toArray, List.set_cons_zero, List.set_cons_succ]
        refine takeH (i := 11) (x := .int .u8 (z.toNat : Int)) rfl rfl (by kernel_rfl) (by kernel_rfl) (by kernel_rfl) (fun _ _ _ h => h) (Or.inl ⟨by rfl, fun w hSw => by (try dsimp only at hSw); obtain ⟨hs7, hs0⟩ := hSw; (go_simp <;> with_reducible rfl)⟩) (by assumption) ?_
        simp only [List.setIfInBounds_toArray, List.set_cons_zero, List.set_cons_succ]
        refine takeH (i := 12) (x := .int .u8 (a.toNat : Int)) rfl rfl (by kernel_rfl) (by kernel_rfl) (by kernel_rfl) (fun _ _ _ h => h) (Or.inl ⟨by rfl, fun w hSw => by (try dsimp only at hSw); obtain ⟨hs7, hs0⟩ := hSw; (go_simp <;> with_reducible rfl)⟩) (by assumption) ?_
        simp only [List.setIfInBounds_toArray, List.set_cons_zero, List.set_cons_succ]
        refine wpAnyH_all (rs := [9, 13]) (by kernel_rfl) (by simp) (List.forall_mem_cons.2 ⟨?_, List.forall_mem_cons.2 ⟨?_, fun _ h => absurd h List.not_mem_nil⟩⟩)
        · refine op_put (x := .int .u8 (s.toNat : Int)) rfl rfl rfl ?hx1 ⟨hHeld, ?_⟩
          case hx1 =>
            have hcl := HCE.out
            have hcl2 : World.cell? (World.drew wr) ⟨w.heap.size, m, none⟩ = some (.int .u8 (s.toNat : Int)) := HCE.out
            simp only [execOp]
            (go_simp <;> with_reducible rfl)
          simp only [List.setIfInBounds_toArray, List.set_cons_zero, List.set_cons_succ]
          refine wpAnyH_all (rs := [13]) (by kernel_rfl) (by simp) (List.forall_mem_cons.2 ⟨?_, fun _ h => absurd h List.not_mem_nil⟩)
          refine op_call rfl rfl rfl rfl (enters_of Tryd.func69 (by kernel_rfl) rfl) (args := #[.pointer (some ⟨T, 0, none⟩), .int .u8 (z.toNat : Int), .int .u8 (a.toNat : Int)]) (by simp [Act.eval]) (R := fun y v => y = .int .u8 (u.toNat : Int) ∧ ∃ n, v = (World.drew wr).drewN n) ?hc5 (fun y v hR => ?_)
          case hc5 => exact (MC.out (World.drew wr) (HTW.out.later (Kit.dn' wr 1))).mono (by rintro e w' ⟨rfl, n', rfl⟩; exact ⟨_, rfl, rfl, n', rfl⟩)
          obtain ⟨rfl, n', rfl⟩ := hR
          replace hHeld := HK.out _ (Kit.Dn.add (⟨1, rfl⟩ : Kit.Dn wr (World.drew wr)) n')
          refine ⟨hHeld, ?_⟩
          simp only [List.setIfInBounds_toArray, List.set_cons_zero, List.set_cons_succ]
          refine wpAnyH_all (rs := [14]) (by kernel_rfl) (by simp) (List.forall_mem_cons.2 ⟨?_, fun _ h => absurd h List.not_mem_nil⟩)
          refine op_call rfl rfl rfl rfl (enters_of Tryd.func56 (by kernel_rfl) rfl) (args := #[.int .u8 (s.toNat : Int), .int .u8 (u.toNat : Int)]) (by simp [Act.eval]) (R := fun y v => y = .int .u8 (r.toNat : Int) ∧ v = (World.drew wr).drewN n') ?hc6 (fun y v hR => ?_)
          case hc6 => exact (AC.out _).mono (by rintro e w' ⟨rfl, rfl⟩; exact ⟨_, rfl, rfl, rfl⟩)
          obtain ⟨rfl, rfl⟩ := hR
          refine ⟨hHeld, ?_⟩
          simp only [List.setIfInBounds_toArray, List.set_cons_zero, List.set_cons_succ]
          refine takeH (i := 15) (x := .pointer (some ⟨w.heap.size, m, none⟩)) rfl rfl (by kernel_rfl) (by kernel_rfl) (by kernel_rfl) (fun _ _ _ h => h) (Or.inl ⟨by rfl, fun w hSw => by (try dsimp only at hSw); obtain ⟨hs7, hs0⟩ := hSw; (go_simp <;> with_reducible rfl)⟩) (by assumption) ?_
          simp only [List.setIfInBounds_toArray, List.set_cons_zero, List.set_cons_succ]
          refine wpAnyH_all (rs := [16]) (by kernel_rfl) (by simp) (List.forall_mem_cons.2 ⟨?_, fun _ h => absurd h List.not_mem_nil⟩)
          have hst := HK2.out _ (Kit.Dn.add (⟨1, rfl⟩ : Kit.Dn wr (World.drew wr)) n')
          refine op_skip (v' := ((World.drew wr).drewN n').setCell ⟨w.heap.size, m, none⟩ (.int .u8 (r.toNat : Int))) rfl rfl rfl ?hx2 ⟨hst, ?_⟩
          case hx2 =>
            have hcl := HCE.out
            have hfl := HFR.out
            simp only [execOp]
            (go_simp <;> with_reducible rfl)
          refine wpAnyH_done (by kernel_rfl) ?_ _
          refine NoPanic.normal ?_
          go_wp2_with fail
          go_roundw
          case rel => exact ⟨k + 1, by omega, by go_num, (HS.out _ ⟨1 + n', rfl⟩).1, HO.out.trans ((Only.of_below (Kit.dn' wr (1 + n'))).trans (HS.out _ ⟨1 + n', rfl⟩).2)⟩
          case measure => simp [intOf]; omega
        · refine op_call rfl rfl rfl rfl (enters_of Tryd.func69 (by kernel_rfl) rfl) (args := #[.pointer (some ⟨T, 0, none⟩), .int .u8 (z.toNat : Int), .int .u8 (a.toNat : Int)]) (by simp [Act.eval]) (R := fun y v => y = .int .u8 (u.toNat : Int) ∧ ∃ n, v = (World.drew wr).drewN n) ?hc7 (fun y v hR => ?_)
          case hc7 => exact (MC.out (World.drew wr) (HTW.out.later (Kit.dn' wr 1))).mono (by rintro e w' ⟨rfl, n', rfl⟩; exact ⟨_, rfl, rfl, n', rfl⟩)
          obtain ⟨rfl, n', rfl⟩ := hR
          replace hHeld := HK.out _ (Kit.Dn.add (⟨1, rfl⟩ : Kit.Dn wr (World.drew wr)) n')
          refine ⟨hHeld, ?_⟩
          simp only [List.setIfInBounds_toArray, List.set_cons_zero, List.set_cons_succ]
          refine wpAnyH_all (rs := [9]) (by kernel_rfl) (by simp) (List.forall_mem_cons.2 ⟨?_, fun _ h => absurd h List.not_mem_nil⟩)
          refine op_put (x := .int .u8 (s.toNat : Int)) rfl rfl rfl ?hx3 ⟨hHeld, ?_⟩
          case hx3 =>
            have hcl := HCE.out
            have hcl2 : World.cell? ((World.drew wr).drewN n') ⟨w.heap.size, m, none⟩ = some (.int .u8 (s.toNat : Int)) := HCE.out
            simp only [execOp]
            (go_simp <;> with_reducible rfl)
          simp only [List.setIfInBounds_toArray, List.set_cons_zero, List.set_cons_succ]
          refine wpAnyH_all (rs := [14]) (by kernel_rfl) (by simp) (List.forall_mem_cons.2 ⟨?_, fun _ h => absurd h List.not_mem_nil⟩)
          refine op_call rfl rfl rfl rfl (enters_of Tryd.func56 (by kernel_rfl) rfl) (args := #[.int .u8 (s.toNat : Int), .int .u8 (u.toNat : Int)]) (by simp [Act.eval]) (R := fun y v => y = .int .u8 (r.toNat : Int) ∧ v = (World.drew wr).drewN n') ?hc8 (fun y v hR => ?_)
          case hc8 => exact (AC.out _).mono (by rintro e w' ⟨rfl, rfl⟩; exact ⟨_, rfl, rfl, rfl⟩)
          obtain ⟨rfl, rfl⟩ := hR
          refine ⟨hHeld, ?_⟩
          simp only [List.setIfInBounds_toArray, List.set_cons_zero, List.set_cons_succ]
          refine takeH (i := 15) (x := .pointer (some ⟨w.heap.size, m, none⟩)) rfl rfl (by kernel_rfl) (by kernel_rfl) (by kernel_rfl) (fun _ _ _ h => h) (Or.inl ⟨by rfl, fun w hSw => by (try dsimp only at hSw); obtain ⟨hs7, hs0⟩ := hSw; (go_simp <;> with_reducible rfl)⟩) (by assumption) ?_
          simp only [List.setIfInBounds_toArray, List.set_cons_zero, List.set_cons_succ]
          refine wpAnyH_all (rs := [16]) (by kernel_rfl) (by simp) (List.forall_mem_cons.2 ⟨?_, fun _ h => absurd h List.not_mem_nil⟩)
          have hst := HK2.out _ (Kit.Dn.add (⟨1, rfl⟩ : Kit.Dn wr (World.drew wr)) n')
          refine op_skip (v' := ((World.drew wr).drewN n').setCell ⟨w.heap.size, m, none⟩ (.int .u8 (r.toNat : Int))) rfl rfl rfl ?hx4 ⟨hst, ?_⟩
          case hx4 =>
            have hcl := HCE.out
            have hfl := HFR.out
            simp only [execOp]
            (go_simp <;> with_reducible rfl)
          refine wpAnyH_done (by kernel_rfl) ?_ _
          refine NoPanic.normal ?_
          go_wp2_with fail
          go_roundw
          case rel => exact ⟨k + 1, by omega, by go_num, (HS.out _ ⟨1 + n', rfl⟩).1, HO.out.trans ((Only.of_below (Kit.dn' wr (1 + n'))).trans (HS.out _ ⟨1 + n', rfl⟩).2)⟩
          case measure => simp [intOf]; omega
      · obtain rfl : k = B.length := by omega
        have hall : B.take B.length = B := List.take_length
        rw [hall, HMM.out] at hb
        have hml := hb.le
        have HR : Hid (RowIs wr (some ⟨w.heap.size, 0, none⟩) (bytesV (Gf.mendL C B a x)) y) := Lib.hid hb.row
        have HL : Hid (y = (Gf.mendL C B a x).length) := Lib.hid (by rw [Gf.mendL_length]; exact HN.out)
        have HBW : Hid (Below w.heap.size w wr) := Lib.hid (HB2.out.trans (ho.below (Nat.le_refl _) HB2.out.size))
        clear hall hb ho
        go_wp2_with fail
        go_ret
        exact ⟨w.heap.size, y, by rw [← HL.out]; rfl, Nat.le_refl _, HBW.out, HR.out⟩
  · have hpi : ¬ (C.length : Int) < (y : Int) := by omega
    have HN : Hid (C.length = max C.length (x + B.length)) := Lib.hid (by omega)
    have hn1 : C.length ≤ C.length := by omega
    have hn2 : x + B.length ≤ C.length := by omega
    clear hcy hy
    go_enter Tryd.func84, Tryd.ntmps84
    go_wp2_with (at_make; go_loud (refine wpList_make_full _ rfl _ _ 22 rfl 0 5 i0 (.int .u8 0) 1 Tryd.underlying22 hi hz0 hz1 _ _ _ _ C.length rfl rfl (by omega) (by omega) (by rw [hz2]; omega) (by unfold maxLen; omega) (Nat.zero_le _) ?_))
    intro w1 hown hgrow
    have hb1 : Below w.heap.size w w1 := (Below.refl _ _).grown hgrow (Nat.le_refl _) (fun k h => by cases h)
    have hfull : Full w1 w.heap.size (List.replicate C.length 0) := (buf_made hown).full (by simp)
    have HB1 := Lib.hid hb1
    have HF1 := Lib.hid hfull
    have hc2b := (boxed_later HQN.out hb1).cell
    clear hown hgrow hb1 hfull
    go_wp2_with (refine wpList_copy_splice rfl (.tmp 18) (.tmp 19) 22 22 rfl 5 Tryd.underlying22 (by rw [hi]; simp [hz1]) _ _ _ _ _ _ rfl rfl w.heap.size 0 (bytesV (List.replicate C.length 0)) 5 HF1.out (bytesV C) (by simp only [bytesV_length]; exact (Nat.min_eq_left (by omega)).symm) (fun h0 => ⟨rfl, HPOS.out _ HB1.out h0⟩) (by rw [bytesV_length, bytesV_length, List.length_replicate]; omega) (bytesV_one C) w.heap.size w HB1.out (Nat.le_refl _) ?_)
    intro w2 hfull2 hb2
    have hmixl : (splice (List.replicate C.length (0 : UInt8)) 0 C).length = C.length := by rw [length_splice _ _ _ (by simp only [List.length_replicate]; omega)]; simp
    have hbuf : Buf w2 w.heap.size C.length (splice (List.replicate C.length 0) 0 C) := by
      have h : Full w2 w.heap.size (splice (List.replicate C.length 0) 0 C) := by unfold Full; rw [← splice_bytes]; exact hfull2
      have := h.buf (by rw [hmixl]; unfold maxLen; omega)
      rw [hmixl] at this
      exact this
    have HMM := Lib.hid (mend_mix C B a x C.length hn1 hn2 HN.out)
    obtain ⟨ys, hys⟩ : ∃ ys, splice (List.replicate C.length (0 : UInt8)) 0 C = ys := ⟨_, rfl⟩
    rw [hys] at hbuf hmixl HMM
    have HAP := Lib.hid (HB.out.apart (g := w.heap.size) (Nat.le_refl _))
    have HBUF := Lib.hid hbuf
    have HB2 := Lib.hid hb2
    have hc5b := (boxed_later HQO.out hb2).cell
    have HC0 := Lib.hid (boxed_later HQT.out hb2)
    have HC7 := Lib.hid (boxed_later HQA.out hb2)
    have HT2 := Lib.hid (HT.out.later hb2)
    have HR2 := Lib.hid (HB.out.later hb2)
    clear hfull2 hb2 hbuf hys hc0 hc2 hc5 hc7
    go_wp2_with fail
    clear hc2b hc5b
    go_loopw [8, 9, 23] (fun _ _ i wr => MeAt w2 w.heap.size C.length x a ys B i wr) (fun _ _ i _ => B.length - (intOf i).toNat)
    case atStart => exact ⟨0, Nat.zero_le _, rfl, by rw [mix_zero]; exact HBUF.out, Only.refl _ _⟩
    case round =>
      obtain ⟨k, hk, rfl, hb, ho⟩ := hrel
      by_cases hlt : k < B.length
      · obtain ⟨b1, off1, rfl, hb1, hcell⟩ := (ho.row HR2.out HAP.out).cells (by simp; omega)
        have hc1 : wr.cell? ⟨b1, off1 + k, none⟩ = some (.int .u8 ((co B k).toNat : Int)) := hcell k _ (bytesV_get B k hlt)
        have hq7 : Boxed wr (b + 7) 3 (.int .i64 (x : Int)) := HC7.out.kept ho (by simp; omega)
        have hq0 : Boxed wr b 80 (.pointer (some ⟨T, 0, none⟩)) := HC0.out.kept ho (by simp; omega)
        obtain ⟨m, hm⟩ : ∃ m, x + k = m := ⟨_, rfl⟩
        have hs2 := hb.cell (x + k) (by simp; omega)
        have hf2 := hb.frozen (x + k)
        have HMX := Lib.hid (mix_step ys x B a k hlt (by omega))
        have hst := fun (v : World) (hv : Kit.Dn wr v) => (hb.later hv.below).store (x + k) (co (mix ys x (B.take k) a) (x + k) ^^^ Gf.gm (co B k) a)
        rw [HMX.out] at hst
        have hwm : IntKind.i64.wrap ((x : Int) + (k : Int)) = (m : Int) := by rw [IntKind.wrap_i64]; omega
        rw [hm] at hs2 hf2 hst
        have HTW := Lib.hid (ho.tab HT2.out hTn)
        have MC : Hid (∀ v : World, TabAt v T Ct → Calls Tryd.prog 69 #[.pointer (some ⟨T, 0, none⟩), .int .u8 ((co B k).toNat : Int), .int .u8 (a.toNat : Int)] v fun e w' => e = .returned (.int .u8 ((Gf.gm (co B k) a).toNat : Int)) ∧ ∃ m, w' = v.drewN m) := Lib.hid fun v hv => tmul_dn (co B k) a T Ct v hv
        generalize co (mix ys x (B.take k) a) m = s at *
        generalize Gf.gm (co B k) a = u at *
        generalize co B k = z at *
        have hzl := UInt8.toNat_lt z
        have hsl := UInt8.toNat_lt s
        have hal := UInt8.toNat_lt a
        have hul := UInt8.toNat_lt u
        have AC : Hid (∀ v : World, Calls Tryd.prog 56 #[.int .u8 (s.toNat : Int), .int .u8 (u.toNat : Int)] v fun e w' => e = .returned (.int .u8 ((s ^^^ u).toNat : Int)) ∧ w' = v) := Lib.hid fun v => add_u8 s u v
        generalize s ^^^ u = r at *
        have hca := hq7.cell
        have hct := hq0.cell
        have HK : Hid (∀ v, Kit.Dn wr v → v.cell? ⟨b + 7, 0, none⟩ = some (.int .i64 (x : Int)) ∧ v.cell? ⟨b, 0, none⟩ = some (.pointer (some ⟨T, 0, none⟩))) := Lib.hid fun v hv => ⟨(boxed_later hq7 hv.below).cell, (boxed_later hq0 hv.below).cell⟩
        have HK2 : Hid (∀ v, Kit.Dn wr v → (v.setCell ⟨w.heap.size, m, none⟩ (.int .u8 (r.toNat : Int))).cell? ⟨b + 7, 0, none⟩ = some (.int .i64 (x : Int)) ∧ (v.setCell ⟨w.heap.size, m, none⟩ (.int .u8 (r.toNat : Int))).cell? ⟨b, 0, none⟩ = some (.pointer (some ⟨T, 0, none⟩))) := Lib.hid fun v hv => ⟨((boxed_later hq7 hv.below).kept (hst v hv).2 (by simp; omega)).cell, ((boxed_later hq0 hv.below).kept (hst v hv).2 (by simp; omega)).cell⟩
        have HS := Lib.hid hst
        have HO := Lib.hid ho
        have hm0 : (0 : Int) ≤ (m : Int) := by omega
        have hm1 : (m : Int) < (C.length : Nat) := by omega
        have HM := Lib.hid hm
        clear hcell hb ho hst HMX hm hq7 hq0
        go_wp2_with fail
        have HCE : Hid (wr.cell? ⟨w.heap.size, m, none⟩ = some (.int .u8 (s.toNat : Int))) := Lib.hid hs2
        have HFR : Hid (wr.frozen? ⟨w.heap.size, m, none⟩ = false) := Lib.hid hf2
        refine wp_region_noPanic ?_
        refine wp_region_held_drew (S := (fun w' => w'.cell? ⟨b + 7, 0, none⟩ = some (.int .i64 (x : Int)) ∧ w'.cell? ⟨b, 0, none⟩ = some (.pointer (some ⟨T, 0, none⟩)))) (by kernel_rfl) (HK.out _ ⟨1, rfl⟩) (fun hHeld => ?_)
        clear hs2 hf2 hc1
        refine takeH (i := 0) (x := .slice (some ⟨w.heap.size, 0, none⟩) C.length C.length) rfl rfl (by kernel_rfl) (by kernel_rfl) (by kernel_rfl) (fun _ _ _ h => h) (Or.inl ⟨by rfl, fun w hSw => by (try dsimp only at hSw); obtain ⟨hs7, hs0⟩ := hSw; (go_simp <;> with_reducible rfl)⟩) (by assumption) ?_
        simp only [List.setIfInBounds_toArray, List.set_cons_zero, List.set_cons_succ]
        refine takeH (i := 1) (x := .int .i64 (x : Int)) rfl rfl (by kernel_rfl) (by kernel_rfl) (by kernel_rfl) (fun _ _ _ h => h) (Or.inl ⟨by rfl, fun w hSw => by (try dsimp only at hSw); obtain ⟨hs7, hs0⟩ := hSw; (go_simp <;> with_reducible rfl)⟩) (by assumption) ?_
        simp only [List.setIfInBounds_toArray, List.set_cons_zero, List.set_cons_succ]
        refine takeH (i := 2) (x := .int .i64 (k : Int)) rfl rfl (by kernel_rfl) (by kernel_rfl) (by kernel_rfl) (fun _ _ _ h => h) (Or.inl ⟨by rfl, fun w hSw => by (try dsimp only at hSw); obtain ⟨hs7, hs0⟩ := hSw; (go_simp <;> with_reducible rfl)⟩) (by assumption) ?_
        simp only [List.setIfInBounds_toArray, List.set_cons_zero, List.set_cons_succ]
        refine takeH (i := 3) (x := .int .i64 (m : Int)) rfl rfl (by kernel_rfl) (by kernel_rfl) (by kernel_rfl) (fun _ _ _ h => h) (Or.inl ⟨by rfl, fun w hSw => by (try dsimp only at hSw); obtain ⟨hs7, hs0⟩ := hSw; (go_simp <;> with_reducible rfl)⟩) (by assumption) ?_
        simp only [List.setIfInBounds_toArray, List.set_cons_zero, List.set_cons_succ]
        refine takeH (i := 4) (x := .slice (some ⟨w.heap.size, 0, none⟩) C.length C.length) rfl rfl (by kernel_rfl) (by kernel_rfl) (by kernel_rfl) (fun _ _ _ h => h) (Or.inl ⟨by rfl, fun w hSw => by (try dsimp only at hSw); obtain ⟨hs7, hs0⟩ := hSw; (go_simp <;> with_reducible rfl)⟩) (by assumption) ?_
        simp only [List.setIfInBounds_toArray, List.set_cons_zero, List.set_cons_succ]
        refine takeH (i := 5) (x := .int .i64 (x : Int)) rfl rfl (by kernel_rfl) (by kernel_rfl) (by kernel_rfl) (fun _ _ _ h => h) (Or.inl ⟨by rfl, fun w hSw => by (try dsimp only at hSw); obtain ⟨hs7, hs0⟩ := hSw; (go_simp <;> with_reducible rfl)⟩) (by assumption) ?_
        simp only [List.setIfInBounds_toArray, List.set_cons_zero, List.set_cons_succ]
        refine takeH (i := 6) (x := .int .i64 (k : Int)) rfl rfl (by kernel_rfl) (by kernel_rfl) (by kernel_rfl) (fun _ _ _ h => h) (Or.inl ⟨by rfl, fun w hSw => by (try dsimp only at hSw); obtain ⟨hs7, hs0⟩ := hSw; (go_simp <;> with_reducible rfl)⟩) (by assumption) ?_
        simp only [List.setIfInBounds_toArray, List.set_cons_zero, List.set_cons_succ]
        refine takeH (i := 7) (x := .int .i64 (m : Int)) rfl rfl (by kernel_rfl) (by kernel_rfl) (by kernel_rfl) (fun _ _ _ h => h) (Or.inl ⟨by rfl, fun w hSw => by (try dsimp only at hSw); obtain ⟨hs7, hs0⟩ := hSw; (go_simp <;> with_reducible rfl)⟩) (by assumption) ?_
        simp only [List.setIfInBounds_toArray, List.set_cons_zero, List.set_cons_succ]
        refine takeH (i := 8) (x := .pointer (some ⟨w.heap.size, m, none⟩)) rfl rfl (by kernel_rfl) (by kernel_rfl) (by kernel_rfl) (fun _ _ _ h => h) (Or.inl ⟨by rfl, fun w hSw => by (try dsimp only at hSw); obtain ⟨hs7, hs0⟩ := hSw; (go_simp <;> with_reducible rfl)⟩) (by assumption) ?_
        simp only [List.setIfInBounds_toArray, List.set_cons_zero, List.set_cons_succ]
        refine takeH (i := 10) (x := .pointer (some ⟨T, 0, none⟩)) rfl rfl (by kernel_rfl) (by kernel_rfl) (by kernel_rfl) (fun _ _ _ h => h) (Or.inl ⟨by rfl, fun w hSw => by (try dsimp only at hSw); obtain ⟨hs7, hs0⟩ := hSw; (go_simp <;> with_reducible rfl)⟩) (by assumption) ?_
        simp only [List.setIfInBounds_toArray, List.set_cons_zero, List.set_cons_succ]
        refine takeH (i := 11) (x := .int .u8 (z.toNat : Int)) rfl rfl (by kernel_rfl) (by kernel_rfl) (by kernel_rfl) (fun _ _ _ h => h) (Or.inl ⟨by rfl, fun w hSw => by (try dsimp only at hSw); obtain ⟨hs7, hs0⟩ := hSw; (go_simp <;> with_reducible rfl)⟩) (by assumption) ?_
        simp only [List.setIfInBounds_toArray, List.set_cons_zero, List.set_cons_succ]
        refine takeH (i := 12) (x := .int .u8 (a.toNat : Int)) rfl rfl (by kernel_rfl) (by kernel_rfl) (by kernel_rfl) (fun _ _ _ h => h) (Or.inl ⟨by rfl, fun w hSw => by (try dsimp only at hSw); obtain ⟨hs7, hs0⟩ := hSw; (go_simp <;> with_reducible rfl)⟩) (by assumption) ?_
        simp only [List.setIfInBounds_toArray, List.set_cons_zero, List.set_cons_succ]
        refine wpAnyH_all (rs := [9, 13]) (by kernel_rfl) (by simp) (List.forall_mem_cons.2 ⟨?_, List.forall_mem_cons.2 ⟨?_, fun _ h => absurd h List.not_mem_nil⟩⟩)
        · refine op_put (x := .int .u8 (s.toNat : Int)) rfl rfl rfl ?hx1 ⟨hHeld, ?_⟩
          case hx1 =>
            have hcl := HCE.out
            have hcl2 : World.cell? (World.drew wr) ⟨w.heap.size, m, none⟩ = some (.int .u8 (s.toNat : Int)) := HCE.out
            simp only [execOp]
            (go_simp <;> with_reducible rfl)
          simp only [List.setIfInBounds_toArray, List.set_cons_zero, List.set_cons_succ]
          refine wpAnyH_all (rs := [13]) (by kernel_rfl) (by simp) (List.forall_mem_cons.2 ⟨?_, fun _ h => absurd h List.not_mem_nil⟩)
          refine op_call rfl rfl rfl rfl (enters_of Tryd.func69 (by kernel_rfl) rfl) (args := #[.pointer (some ⟨T, 0, none⟩), .int .u8 (z.toNat : Int), .int .u8 (a.toNat : Int)]) (by simp [Act.eval]) (R := fun y v => y = .int .u8 (u.toNat : Int) ∧ ∃ n, v = (World.drew wr).drewN n) ?hc5 (fun y v hR => ?_)
          case hc5 => exact (MC.out (World.drew wr) (HTW.out.later (Kit.dn' wr 1))).mono (by rintro e w' ⟨rfl, n', rfl⟩; exact ⟨_, rfl, rfl, n', rfl⟩)
          obtain ⟨rfl, n', rfl⟩ := hR
          replace hHeld := HK.out _ (Kit.Dn.add (⟨1, rfl⟩ : Kit.Dn wr (World.drew wr)) n')
          refine ⟨hHeld, ?_⟩
          simp only [List.setIfInBounds_toArray, List.set_cons_zero, List.set_cons_succ]
          refine wpAnyH_all (rs := [14]) (by kernel_rfl) (by simp) (List.forall_mem_cons.2 ⟨?_, fun _ h => absurd h List.not_mem_nil⟩)
          refine op_call rfl rfl rfl rfl (enters_of Tryd.func56 (by kernel_rfl) rfl) (args := #[.int .u8 (s.toNat : Int), .int .u8 (u.toNat : Int)]) (by simp [Act.eval]) (R := fun y v => y = .int .u8 (r.toNat : Int) ∧ v = (World.drew wr).drewN n') ?hc6 (fun y v hR => ?_)
          case hc6 => exact (AC.out _).mono (by rintro e w' ⟨rfl, rfl⟩; exact ⟨_, rfl, rfl, rfl⟩)
          obtain ⟨rfl, rfl⟩ := hR
          refine ⟨hHeld, ?_⟩
          simp only [List.setIfInBounds_toArray, List.set_cons_zero, List.set_cons_succ]
          refine takeH (i := 15) (x := .pointer (some ⟨w.heap.size, m, none⟩)) rfl rfl (by kernel_rfl) (by kernel_rfl) (by kernel_rfl) (fun _ _ _ h => h) (Or.inl ⟨by rfl, fun w hSw => by (try dsimp only at hSw); obtain ⟨hs7, hs0⟩ := hSw; (go_simp <;> with_reducible rfl)⟩) (by assumption) ?_
          simp only [List.setIfInBounds_toArray, List.set_cons_zero, List.set_cons_succ]
          refine wpAnyH_all (rs := [16]) (by kernel_rfl) (by simp) (List.forall_mem_cons.2 ⟨?_, fun _ h => absurd h List.not_mem_nil⟩)
          have hst := HK2.out _ (Kit.Dn.add (⟨1, rfl⟩ : Kit.Dn wr (World.drew wr)) n')
          refine op_skip (v' := ((World.drew wr).drewN n').setCell ⟨w.heap.size, m, none⟩ (.int .u8 (r.toNat : Int))) rfl rfl rfl ?hx2 ⟨hst, ?_⟩
          case hx2 =>
            have hcl := HCE.out
            have hfl := HFR.out
            simp only [execOp]
            (go_simp <;> with_reducible rfl)
          refine wpAnyH_done (by kernel_rfl) ?_ _
          refine NoPanic.normal ?_
          go_wp2_with fail
          go_roundw
          case rel => exact ⟨k + 1, by omega, by go_num, (HS.out _ ⟨1 + n', rfl⟩).1, HO.out.trans ((Only.of_below (Kit.dn' wr (1 + n'))).trans (HS.out _ ⟨1 + n', rfl⟩).2)⟩
          case measure => simp [intOf]; omega
        · refine op_call rfl rfl rfl rfl (enters_of Tryd.func69 (by kernel_rfl) rfl) (args := #[.pointer (some ⟨T, 0, none⟩), .int .u8 (z.toNat : Int), .int .u8 (a.toNat : Int)]) (by simp [Act.eval]) (R := fun y v => y = .int .u8 (u.toNat : Int) ∧ ∃ n, v = (World.drew wr).drewN n) ?hc7 (fun y v hR => ?_)
          case hc7 => exact (MC.out (World.drew wr) (HTW.out.later (Kit.dn' wr 1))).mono (by rintro e w' ⟨rfl, n', rfl⟩; exact ⟨_, rfl, rfl, n', rfl⟩)
          obtain ⟨rfl, n', rfl⟩ := hR
          replace hHeld := HK.out _ (Kit.Dn.add (⟨1, rfl⟩ : Kit.Dn wr (World.drew wr)) n')
          refine ⟨hHeld, ?_⟩
          simp only [List.setIfInBounds_toArray, List.set_cons_zero, List.set_cons_succ]
          refine wpAnyH_all (rs := [9]) (by kernel_rfl) (by simp) (List.forall_mem_cons.2 ⟨?_, fun _ h => absurd h List.not_mem_nil⟩)
          refine op_put (x := .int .u8 (s.toNat : Int)) rfl rfl rfl ?hx3 ⟨hHeld, ?_⟩
          case hx3 =>
            have hcl := HCE.out
            have hcl2 : World.cell? ((World.drew wr).drewN n') ⟨w.heap.size, m, none⟩ = some (.int .u8 (s.toNat : Int)) := HCE.out
            simp only [execOp]
            (go_simp <;> with_reducible rfl)
          simp only [List.setIfInBounds_toArray, List.set_cons_zero, List.set_cons_succ]
          refine wpAnyH_all (rs := [14]) (by kernel_rfl) (by simp) (List.forall_mem_cons.2 ⟨?_, fun _ h => absurd h List.not_mem_nil⟩)
          refine op_call rfl rfl rfl rfl (enters_of Tryd.func56 (by kernel_rfl) rfl) (args := #[.int .u8 (s.toNat : Int), .int .u8 (u.toNat : Int)]) (by simp [Act.eval]) (R := fun y v => y = .int .u8 (r.toNat : Int) ∧ v = (World.drew wr).drewN n') ?hc8 (fun y v hR => ?_)
          case hc8 => exact (AC.out _).mono (by rintro e w' ⟨rfl, rfl⟩; exact ⟨_, rfl, rfl, rfl⟩)
          obtain ⟨rfl, rfl⟩ := hR
          refine ⟨hHeld, ?_⟩
          simp only [List.setIfInBounds_toArray, List.set_cons_zero, List.set_cons_succ]
          refine takeH (i := 15) (x := .pointer (some ⟨w.heap.size, m, none⟩)) rfl rfl (by kernel_rfl) (by kernel_rfl) (by kernel_rfl) (fun _ _ _ h => h) (Or.inl ⟨by rfl, fun w hSw => by (try dsimp only at hSw); obtain ⟨hs7, hs0⟩ := hSw; (go_simp <;> with_reducible rfl)⟩) (by assumption) ?_
          simp only [List.setIfInBounds_toArray, List.set_cons_zero, List.set_cons_succ]
          refine wpAnyH_all (rs := [16]) (by kernel_rfl) (by simp) (List.forall_mem_cons.2 ⟨?_, fun _ h => absurd h List.not_mem_nil⟩)
          have hst := HK2.out _ (Kit.Dn.add (⟨1, rfl⟩ : Kit.Dn wr (World.drew wr)) n')
          refine op_skip (v' := ((World.drew wr).drewN n').setCell ⟨w.heap.size, m, none⟩ (.int .u8 (r.toNat : Int))) rfl rfl rfl ?hx4 ⟨hst, ?_⟩
          case hx4 =>
            have hcl := HCE.out
            have hfl := HFR.out
            simp only [execOp]
            (go_simp <;> with_reducible rfl)
          refine wpAnyH_done (by kernel_rfl) ?_ _
          refine NoPanic.normal ?_
          go_wp2_with fail
          go_roundw
          case rel => exact ⟨k + 1, by omega, by go_num, (HS.out _ ⟨1 + n', rfl⟩).1, HO.out.trans ((Only.of_below (Kit.dn' wr (1 + n'))).trans (HS.out _ ⟨1 + n', rfl⟩).2)⟩
          case measure => simp [intOf]; omega
      · obtain rfl : k = B.length := by omega
        have hall : B.take B.length = B := List.take_length
        rw [hall, HMM.out] at hb
        have hml := hb.le
        have HR : Hid (RowIs wr (some ⟨w.heap.size, 0, none⟩) (bytesV (Gf.mendL C B a x)) C.length) := Lib.hid hb.row
        have HL : Hid (C.length = (Gf.mendL C B a x).length) := Lib.hid (by rw [Gf.mendL_length]; exact HN.out)
        have HBW : Hid (Below w.heap.size w wr) := Lib.hid (HB2.out.trans (ho.below (Nat.le_refl _) HB2.out.size))
        clear hall hb ho
        go_wp2_with fail
        go_ret
        exact ⟨w.heap.size, C.length, by rw [← HL.out]; rfl, Nat.le_refl _, HBW.out, HR.out⟩
end Go.Proofs.YtgchfijeiggimaaDoor
