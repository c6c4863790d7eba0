/- The walk of PolyLeibniz. -/
import Derived.Test.YtbmafnippbjpnaaRv
namespace Go.Proofs.Ytbmafnippbjpnaa
open Go.RowKit
set_option linter.unusedVariables false
set_option linter.unusedSimpArgs false
/-- what each operation of the last statement has as its result -/
def LeiG (p q : List UInt8) (i : Nat) (x : Value) (v : World) : Prop :=
  match i with
  | 0 | 5 | 9 => RowV p x v
  | 1 | 7 | 10 => RowV q x v
  | 2 => RowV (tr (mulL p q)) x v
  | 3 => RowV (tr (slopeL (tr (mulL p q)))) x v
  | 4 | 14 => x = .string ⟨(tr (slopeL (mulL p q))).toArray⟩
  | 6 => RowV (tr (slopeL p)) x v
  | 8 => RowV (tr (mulL (tr (slopeL p)) q)) x v
  | 11 => RowV (tr (slopeL q)) x v
  | 12 => RowV (tr (mulL p (tr (slopeL q)))) x v
  | 13 => RowV (tr (addL (tr (mulL (tr (slopeL p)) q)) (tr (mulL p (tr (slopeL q)))))) x v
  | _ => x = .bool true
theorem LeiG.later {p q : List UInt8} (i : Nat) (x : Value) (v v' : World) (h : LeiG p q i x v) (hb : Below v.heap.size v v') : LeiG p q i x v' := by
  unfold LeiG at *
  split at h <;> first | exact h.later hb | exact h
theorem slope_congr {a b : List UInt8} (h : ∀ i, co a i = co b i) (i : Nat) : co (slopeL a) i = co (slopeL b) i := by
  rw [co_slopeL, co_slopeL]
  unfold Gf.pd
  split
  · exact h _
  · rfl
theorem lei_left (p q : List UInt8) : tr (slopeL (tr (mulL p q))) = tr (slopeL (mulL p q)) := tr_congr (slope_congr (co_tr _))
theorem lei_right (p q : List UInt8) : tr (addL (tr (mulL (tr (slopeL p)) q)) (tr (mulL p (tr (slopeL q))))) = tr (slopeL (mulL p q)) := by
  refine tr_congr fun i => ?_
  rw [leibnizL, addL_congr (fun i => (co_tr _ i).trans (mulL_congr (co_tr _) (fun _ => rfl) i)) (fun i => (co_tr _ i).trans (mulL_congr (fun _ => rfl) (co_tr _) i))]
set_option maxRecDepth 100000 in
set_option maxHeartbeats 1000000 in
theorem lei_short (p q : List UInt8) (o o2 : Option Addr) (c c2 : Nat) (w : World) (hP : RowIs w o (bytesV p) c) (hQ : RowIs w o2 (bytesV q) c2) (hl1 : p.length ≤ 40) (hl2 : q.length ≤ 40) :
    Calls Try.prog 6 #[.slice o p.length c, .slice o2 q.length c2] w fun e w' => e = .returned (.bool true) ∧ Below w.heap.size w w' := by
  have HP := Lib.hid hP
  have HQ := Lib.hid hQ
  clear hP hQ
  go_enter Try.func6, Try.ntmps6
  go_wp2_with fail
  refine (alive2_any _).mono ?_; rintro e w1 ⟨rfl, hg⟩
  have HG := Lib.hid hg
  clear hg
  go_wp2_with fail
  have hsl : ∀ z : List UInt8, (tr (slopeL z)).length ≤ z.length := fun z => by have := tr_le (slopeL z); simpa [slopeL] using this
  have hml : ∀ a b : List UInt8, (tr (mulL a b)).length ≤ a.length + b.length := fun a b => by have := tr_le (mulL a b); simpa [mulL] using this
  have h3 := hsl p
  have h4 := hsl q
  have h5 := hml (tr (slopeL p)) q
  have h6 := hml p (tr (slopeL q))
  have h7 := hml p q
  refine Rg.region_grow (by kernel_rfl) (LeiG p q) (by kernel_rfl) LeiG.later ?step ?fin
  case step =>
    intro i op b v ho hb hrest hdep
    have r0 : b.eval (.tmp 0) = .slice o p.length c := hrest 0 (Rg.free_spec (by kernel_rfl))
    have r1 : b.eval (.tmp 1) = .slice o2 q.length c2 := hrest 1 (Rg.free_spec (by kernel_rfl))
    have hp : RowV p (.slice o p.length c) v := ⟨_, _, rfl, (HP.out.later HG.out).later hb⟩
    have hq : RowV q (.slice o2 q.length c2) v := ⟨_, _, rfl, (HQ.out.later HG.out).later hb⟩
    have hi := (Array.getElem?_eq_some_iff.1 ho).1
    match i, hi with
    | 0, _ =>
      obtain rfl := Option.some.inj ho
      refine Rg.does_move rfl ?_
      rw [r0]; exact hp
    | 1, _ =>
      obtain rfl := Option.some.inj ho
      refine Rg.does_move rfl ?_
      rw [r1]; exact hq
    | 2, _ =>
      obtain rfl := Option.some.inj ho
      have d1 : RowV p (b.eval (.tmp 15)) v := hdep ⟨0, .data⟩ (by simp) rfl _ _ rfl rfl
      have d2 : RowV q (b.eval (.tmp 16)) v := hdep ⟨1, .data⟩ (by simp) rfl _ _ rfl rfl
      exact Rg.does_fn rfl (enters_of Try.func15 (by kernel_rfl) rfl) (args := #[b.eval (.tmp 15), b.eval (.tmp 16)]) (by simp) (mul_rv d1 d2 (by omega))
    | 3, _ =>
      obtain rfl := Option.some.inj ho
      have d1 : RowV (tr (mulL p q)) (b.eval (.tmp 17)) v := hdep ⟨2, .data⟩ (by simp) rfl _ _ rfl rfl
      exact Rg.does_fn rfl (enters_of Try.func23 (by kernel_rfl) rfl) (args := #[b.eval (.tmp 17)]) (by simp) (slope_rv d1 (by omega))
    | 4, _ =>
      obtain rfl := Option.some.inj ho
      have d1 : RowV (tr (slopeL (tr (mulL p q)))) (b.eval (.tmp 18)) v := hdep ⟨3, .data⟩ (by simp) rfl _ _ rfl rfl
      exact Rg.does_conv rfl (conv_rv d1) (by show _ = _; rw [lei_left])
    | 5, _ =>
      obtain rfl := Option.some.inj ho
      refine Rg.does_move rfl ?_
      rw [r0]; exact hp
    | 6, _ =>
      obtain rfl := Option.some.inj ho
      have d1 : RowV p (b.eval (.tmp 20)) v := hdep ⟨5, .data⟩ (by simp) rfl _ _ rfl rfl
      exact Rg.does_fn rfl (enters_of Try.func23 (by kernel_rfl) rfl) (args := #[b.eval (.tmp 20)]) (by simp) (slope_rv d1 (by omega))
    | 7, _ =>
      obtain rfl := Option.some.inj ho
      refine Rg.does_move rfl ?_
      rw [r1]; exact hq
    | 8, _ =>
      obtain rfl := Option.some.inj ho
      have d1 : RowV (tr (slopeL p)) (b.eval (.tmp 21)) v := hdep ⟨6, .data⟩ (by simp) rfl _ _ rfl rfl
      have d2 : RowV q (b.eval (.tmp 22)) v := hdep ⟨7, .data⟩ (by simp) rfl _ _ rfl rfl
      exact Rg.does_fn rfl (enters_of Try.func15 (by kernel_rfl) rfl) (args := #[b.eval (.tmp 21), b.eval (.tmp 22)]) (by simp) (mul_rv d1 d2 (by omega))
    | 9, _ =>
      obtain rfl := Option.some.inj ho
      refine Rg.does_move rfl ?_
      rw [r0]; exact hp
    | 10, _ =>
      obtain rfl := Option.some.inj ho
      refine Rg.does_move rfl ?_
      rw [r1]; exact hq
    | 11, _ =>
      obtain rfl := Option.some.inj ho
      have d1 : RowV q (b.eval (.tmp 25)) v := hdep ⟨10, .data⟩ (by simp) rfl _ _ rfl rfl
      exact Rg.does_fn rfl (enters_of Try.func23 (by kernel_rfl) rfl) (args := #[b.eval (.tmp 25)]) (by simp) (slope_rv d1 (by omega))
    | 12, _ =>
      obtain rfl := Option.some.inj ho
      have d1 : RowV p (b.eval (.tmp 24)) v := hdep ⟨9, .data⟩ (by simp) rfl _ _ rfl rfl
      have d2 : RowV (tr (slopeL q)) (b.eval (.tmp 26)) v := hdep ⟨11, .data⟩ (by simp) rfl _ _ rfl rfl
      exact Rg.does_fn rfl (enters_of Try.func15 (by kernel_rfl) rfl) (args := #[b.eval (.tmp 24), b.eval (.tmp 26)]) (by simp) (mul_rv d1 d2 (by omega))
    | 13, _ =>
      obtain rfl := Option.some.inj ho
      have d1 : RowV (tr (mulL (tr (slopeL p)) q)) (b.eval (.tmp 23)) v := hdep ⟨8, .data⟩ (by simp) rfl _ _ rfl rfl
      have d2 : RowV (tr (mulL p (tr (slopeL q)))) (b.eval (.tmp 27)) v := hdep ⟨12, .data⟩ (by simp) rfl _ _ rfl rfl
      exact Rg.does_fn rfl (enters_of Try.func13 (by kernel_rfl) rfl) (args := #[b.eval (.tmp 23), b.eval (.tmp 27)]) (by simp) (add_rv d1 d2 (by omega) (by omega))
    | 14, _ =>
      obtain rfl := Option.some.inj ho
      have d1 : RowV (tr (addL (tr (mulL (tr (slopeL p)) q)) (tr (mulL p (tr (slopeL q)))))) (b.eval (.tmp 28)) v := hdep ⟨13, .data⟩ (by simp) rfl _ _ rfl rfl
      exact Rg.does_conv rfl (conv_rv d1) (by show _ = _; rw [lei_right])
    | 15, _ =>
      obtain rfl := Option.some.inj ho
      have d1 : b.eval (.tmp 19) = .string ⟨(tr (slopeL (mulL p q))).toArray⟩ := hdep ⟨4, .data⟩ (by simp) rfl _ _ rfl rfl
      have d2 : b.eval (.tmp 29) = .string ⟨(tr (slopeL (mulL p q))).toArray⟩ := hdep ⟨14, .data⟩ (by simp) rfl _ _ rfl rfl
      have e1 : b.tmps[19]?.getD undef = .string ⟨(tr (slopeL (mulL p q))).toArray⟩ := by simpa [Act.eval] using d1
      have e2 : b.tmps[29]?.getD undef = .string ⟨(tr (slopeL (mulL p q))).toArray⟩ := by simpa [Act.eval] using d2
      refine Rg.does_pure (.bool true) ?_ rfl
      have hu := Try.underlying9
      simp only [execOp]
      go_simp
    | 16, _ =>
      obtain rfl := Option.some.inj ho
      have d1 : b.eval (.tmp 30) = .bool true := hdep ⟨15, .data⟩ (by simp) rfl _ _ rfl rfl
      exact Rg.does_assign rfl d1
    | n + 17, h => exact absurd h (by simp)
  case fin =>
    intro b v hb hs hd hrest hall
    have h4 : b.tmps.getD 4 undef = .bool true := hall 16 _ 4 rfl rfl
    have HB := Lib.hid (Kit.step HG.out hb)
    go_wp2
    refine bodyPost_ret (results_tmp rfl _ _ _) hd ?_
    exact ⟨by rw [h4], HB.out⟩
theorem lei_long (p q : List UInt8) (o o2 : Option Addr) (c c2 : Nat) (w : World) (hl : 40 < p.length ∨ 40 < q.length) (h1 : p.length ≤ 9223372036854775807) (h2 : q.length ≤ 9223372036854775807) :
    Calls Try.prog 6 #[.slice o p.length c, .slice o2 q.length c2] w fun e w' => e = .returned (.bool true) ∧ Below w.heap.size w w' := by
  by_cases h3 : 40 < p.length
  · clear hl
    go_enter Try.func6, Try.ntmps6
    go_wp2_with fail
    refine (alive2_any _).mono ?_; rintro e w1 ⟨rfl, hg⟩
    have HG := Lib.hid hg
    clear hg
    go_wp2_with fail
    go_ret
    exact ⟨rfl, HG.out⟩
  · have h4 : 40 < q.length := by omega
    have hd1 : decide (40 < p.length) = false := by simpa using h3
    clear hl
    go_enter Try.func6, Try.ntmps6
    go_wp2_with fail
    refine (alive2_any _).mono ?_; rintro e w1 ⟨rfl, hg⟩
    have HG := Lib.hid hg
    clear hg
    go_wp2_with fail
    go_ret
    exact ⟨rfl, HG.out⟩
theorem lei_walk (p q : List UInt8) (o o2 : Option Addr) (c c2 : Nat) (w : World) (hP : RowIs w o (bytesV p) c) (hQ : RowIs w o2 (bytesV q) c2) :
    Calls Try.prog 6 #[.slice o p.length c, .slice o2 q.length c2] w fun e w' => e = .returned (.bool true) ∧ Below w.heap.size w w' := by
  by_cases hl : 40 < p.length ∨ 40 < q.length
  · have h1 := hP.le
    have h2 := hP.cap
    have h3 := hQ.le
    have h4 := hQ.cap
    simp only [bytesV_length] at h1 h3
    unfold maxLen at h2 h4
    exact lei_long p q o o2 c c2 w hl (by omega) (by omega)
  · exact lei_short p q o o2 c c2 w hP hQ (by omega) (by omega)
end Go.Proofs.Ytbmafnippbjpnaa
