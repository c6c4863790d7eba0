/- The answer of law03 to its example. -/
import Derived.Test.YtkkmgjjafbjnjaaDoorCg
import Derived.Test.YtkkmgjjafbjnjaaDoorAp
namespace Go.Proofs.YtkkmgjjafbjnjaaDoor
open Go.RowKit
set_option linter.unusedVariables false
set_option linter.unusedSimpArgs false
/-- what each operation of the region has as its result -/
def Al3G (i : Nat) (x : Value) (v : World) : Prop :=
  match i with
  | 0 | 4 | 10 | 13 => RowV (genL 32) (x) v
  | 1 => (x) = .int .i64 ((genL 32).length : Int)
  | 5 => CellV (co (genL 32) 32) (x) v
  | 6 => (x) = .int .u8 1
  | 11 | 14 => CellV (co (genL 32) 0) (x) v
  | 12 | 15 => (x) = .int .u8 ((co (genL 32) 0).toNat : Int)
  | _ => (x) = .bool true
theorem Al3G.later (i : Nat) (x : Value) (v v' : World) (h : Al3G i x v) (hb : Below v.heap.size v v') : Al3G i x v' := by
  unfold Al3G at *
  split at h <;> first | exact h | exact h.later hb
set_option maxRecDepth 100000 in
set_option maxHeartbeats 2000000 in
theorem alive3_any (w : World) : Calls Tryd.prog 7 #[] w fun e w' => e = .returned (.bool true) ∧ Below w.heap.size w w' := by
  go_enter Tryd.func7, Tryd.ntmps7
  go_wp2_with fail
  refine (cgen_any _).mono ?_; rintro e w1 ⟨gv, rfl, hg, hb1⟩
  have HB1 := Lib.hid hb1
  clear hb1
  go_wp2_with fail
  refine Rg.region_grow (by kernel_rfl) (Al3G ) (by kernel_rfl) Al3G.later ?gd ?step ?fin
  case gd =>
    intro i op k t ho hg x v hG
    have hi := (Array.getElem?_eq_some_iff.1 ho).1
    match i, hi with
    | 0, _ =>
      obtain rfl := Option.some.inj ho
      cases hg
    | 1, _ =>
      obtain rfl := Option.some.inj ho
      cases hg
    | 2, _ =>
      obtain rfl := Option.some.inj ho
      cases hg
    | 3, _ =>
      obtain rfl := Option.some.inj ho
      cases hg
    | 4, _ =>
      obtain rfl := Option.some.inj ho
      obtain ⟨rfl, rfl⟩ : 3 = k ∧ true = t := by simpa using hg
      exact hG
    | 5, _ =>
      obtain rfl := Option.some.inj ho
      obtain ⟨rfl, rfl⟩ : 3 = k ∧ true = t := by simpa using hg
      exact hG
    | 6, _ =>
      obtain rfl := Option.some.inj ho
      obtain ⟨rfl, rfl⟩ : 3 = k ∧ true = t := by simpa using hg
      exact hG
    | 7, _ =>
      obtain rfl := Option.some.inj ho
      obtain ⟨rfl, rfl⟩ : 3 = k ∧ true = t := by simpa using hg
      exact hG
    | 8, _ =>
      obtain rfl := Option.some.inj ho
      cases hg
    | 9, _ =>
      obtain rfl := Option.some.inj ho
      cases hg
    | 10, _ =>
      obtain rfl := Option.some.inj ho
      obtain ⟨rfl, rfl⟩ : 9 = k ∧ true = t := by simpa using hg
      exact hG
    | 11, _ =>
      obtain rfl := Option.some.inj ho
      obtain ⟨rfl, rfl⟩ : 9 = k ∧ true = t := by simpa using hg
      exact hG
    | 12, _ =>
      obtain rfl := Option.some.inj ho
      obtain ⟨rfl, rfl⟩ : 9 = k ∧ true = t := by simpa using hg
      exact hG
    | 13, _ =>
      obtain rfl := Option.some.inj ho
      obtain ⟨rfl, rfl⟩ : 9 = k ∧ true = t := by simpa using hg
      exact hG
    | 14, _ =>
      obtain rfl := Option.some.inj ho
      obtain ⟨rfl, rfl⟩ : 9 = k ∧ true = t := by simpa using hg
      exact hG
    | 15, _ =>
      obtain rfl := Option.some.inj ho
      obtain ⟨rfl, rfl⟩ : 9 = k ∧ true = t := by simpa using hg
      exact hG
    | 16, _ =>
      obtain rfl := Option.some.inj ho
      obtain ⟨rfl, rfl⟩ : 9 = k ∧ true = t := by simpa using hg
      exact hG
    | 17, _ =>
      obtain rfl := Option.some.inj ho
      cases hg
    | 18, _ =>
      obtain rfl := Option.some.inj ho
      cases hg
    | n + 19, h => exact absurd h (by simp)
  case step =>
    intro i op b v ho hb hrest hdep
    have r1 : b.eval (.tmp 1) = gv := hrest 1 (Rg.free_spec (by kernel_rfl))
    have hi := (Array.getElem?_eq_some_iff.1 ho).1
    match i, hi with
    | 0, _ =>
      obtain rfl := Option.some.inj ho
      have d1 : RowV (genL 32) (b.eval (.tmp 1)) v := by rw [r1]; exact hg.later hb
      exact Rg.does_move rfl d1
    | 1, _ =>
      obtain rfl := Option.some.inj ho
      have d1 : RowV (genL 32) (b.eval (.tmp 3)) v := hdep ⟨0, .data⟩ (by simp) rfl _ _ rfl rfl
      obtain ⟨o3, c3, e3, hr3⟩ := d1
      have f1 : b.tmps[3]?.getD undef = _ := (show _ = b.eval (.tmp 3) by simp [Act.eval]).trans e3
      refine Rg.does_pure (.int .i64 ((genL 32).length : Int)) ?_ rfl
      simp only [execOp]
      go_simp
    | 2, _ =>
      obtain rfl := Option.some.inj ho
      have d1 : (b.eval (.tmp 4)) = .int .i64 ((genL 32).length : Int) := hdep ⟨1, .data⟩ (by simp) rfl _ _ rfl rfl
      have f1 : b.tmps[4]?.getD undef = _ := (show _ = b.eval (.tmp 4) by simp [Act.eval]).trans d1
      refine Rg.does_pure (.bool true) ?_ rfl
      have hn : (genL 32).length = 33 := genL_length 32
      simp only [execOp]
      go_simp
    | 3, _ =>
      obtain rfl := Option.some.inj ho
      have d1 : (b.eval (.tmp 5)) = .bool true := hdep ⟨2, .data⟩ (by simp) rfl _ _ rfl rfl
      exact Rg.does_move rfl d1
    | 4, _ =>
      obtain rfl := Option.some.inj ho
      have d1 : RowV (genL 32) (b.eval (.tmp 1)) v := by rw [r1]; exact hg.later hb
      exact Rg.does_move rfl d1
    | 5, _ =>
      obtain rfl := Option.some.inj ho
      have d1 : RowV (genL 32) (b.eval (.tmp 7)) v := hdep ⟨4, .data⟩ (by simp) rfl _ _ rfl rfl
      exact does_index (n := 32) rfl d1 rfl (by rw [genL_length]; omega) fun p h => h
    | 6, _ =>
      obtain rfl := Option.some.inj ho
      have d1 : CellV (co (genL 32) 32) (b.eval (.tmp 8)) v := hdep ⟨5, .data⟩ (by simp) rfl _ _ rfl rfl
      exact does_load rfl d1 (by rw [gen_top 32]; rfl)
    | 7, _ =>
      obtain rfl := Option.some.inj ho
      have d1 : (b.eval (.tmp 9)) = .int .u8 1 := hdep ⟨6, .data⟩ (by simp) rfl _ _ rfl rfl
      have f1 : b.tmps[9]?.getD undef = _ := (show _ = b.eval (.tmp 9) by simp [Act.eval]).trans d1
      refine Rg.does_pure (.bool true) ?_ rfl
      simp only [execOp]
      go_simp
    | 8, _ =>
      obtain rfl := Option.some.inj ho
      have d1 : (b.eval (.tmp 6)) = .bool true := hdep ⟨3, .data⟩ (by simp) rfl _ _ rfl rfl
      have d2 : (b.eval (.tmp 10)) = .bool true := hdep ⟨7, .data⟩ (by simp) rfl _ _ rfl rfl
      exact Rg.does_pick rfl d1 d2
    | 9, _ =>
      obtain rfl := Option.some.inj ho
      have d1 : (b.eval (.tmp 11)) = .bool true := hdep ⟨8, .data⟩ (by simp) rfl _ _ rfl rfl
      exact Rg.does_move rfl d1
    | 10, _ =>
      obtain rfl := Option.some.inj ho
      have d1 : RowV (genL 32) (b.eval (.tmp 1)) v := by rw [r1]; exact hg.later hb
      exact Rg.does_move rfl d1
    | 11, _ =>
      obtain rfl := Option.some.inj ho
      have d1 : RowV (genL 32) (b.eval (.tmp 13)) v := hdep ⟨10, .data⟩ (by simp) rfl _ _ rfl rfl
      exact does_index (n := 0) rfl d1 rfl (by rw [genL_length]; omega) fun p h => h
    | 12, _ =>
      obtain rfl := Option.some.inj ho
      have d1 : CellV (co (genL 32) 0) (b.eval (.tmp 14)) v := hdep ⟨11, .data⟩ (by simp) rfl _ _ rfl rfl
      exact does_load rfl d1 (rfl)
    | 13, _ =>
      obtain rfl := Option.some.inj ho
      exact Rg.does_fn rfl (enters_of Tryd.func26 (by kernel_rfl) rfl) (args := #[]) (by simp) (rgen_any v)
    | 14, _ =>
      obtain rfl := Option.some.inj ho
      have d1 : RowV (genL 32) (b.eval (.tmp 16)) v := hdep ⟨13, .data⟩ (by simp) rfl _ _ rfl rfl
      exact does_index (n := 0) rfl d1 rfl (by rw [genL_length]; omega) fun p h => h
    | 15, _ =>
      obtain rfl := Option.some.inj ho
      have d1 : CellV (co (genL 32) 0) (b.eval (.tmp 17)) v := hdep ⟨14, .data⟩ (by simp) rfl _ _ rfl rfl
      exact does_load rfl d1 (rfl)
    | 16, _ =>
      obtain rfl := Option.some.inj ho
      have d1 : (b.eval (.tmp 15)) = .int .u8 ((co (genL 32) 0).toNat : Int) := hdep ⟨12, .data⟩ (by simp) rfl _ _ rfl rfl
      have d2 : (b.eval (.tmp 18)) = .int .u8 ((co (genL 32) 0).toNat : Int) := hdep ⟨15, .data⟩ (by simp) rfl _ _ rfl rfl
      have f1 : b.tmps[15]?.getD undef = _ := (show _ = b.eval (.tmp 15) by simp [Act.eval]).trans d1
      have f2 : b.tmps[18]?.getD undef = _ := (show _ = b.eval (.tmp 18) by simp [Act.eval]).trans d2
      refine Rg.does_pure (.bool true) ?_ rfl
      simp only [execOp]
      go_simp
    | 17, _ =>
      obtain rfl := Option.some.inj ho
      have d1 : (b.eval (.tmp 12)) = .bool true := hdep ⟨9, .data⟩ (by simp) rfl _ _ rfl rfl
      have d2 : (b.eval (.tmp 19)) = .bool true := hdep ⟨16, .data⟩ (by simp) rfl _ _ rfl rfl
      exact Rg.does_pick rfl d1 d2
    | 18, _ =>
      obtain rfl := Option.some.inj ho
      have d1 : (b.eval (.tmp 20)) = .bool true := hdep ⟨17, .data⟩ (by simp) rfl _ _ rfl rfl
      exact Rg.does_assign rfl d1
    | n + 19, h => exact absurd h (by simp)
  case fin =>
    intro b v2 hb2 hs hd hrest hall
    have h4 : b.tmps.getD 0 undef = .bool true := hall 18 _ 0 rfl rfl
    have HB := Lib.hid (Kit.step HB1.out hb2)
    go_wp2
    refine bodyPost_ret (results_tmp rfl _ _ _) hd ?_
    exact ⟨by rw [h4], HB.out⟩
end Go.Proofs.YtkkmgjjafbjnjaaDoor
