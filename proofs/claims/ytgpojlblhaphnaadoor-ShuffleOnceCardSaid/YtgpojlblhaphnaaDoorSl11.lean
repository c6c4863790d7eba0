/- Shuffles: the code's All. -/
import Derived.Test.YtgpojlblhaphnaaDoorAl11
import Derived.Test.YtgpojlblhaphnaaDoorRgl
namespace Go.Proofs.YtgpojlblhaphnaaDoor.Da
/-- the list of places, as far as it is made -/
def ilst (k : List UInt8) (n j : Nat) : List Value := (List.range n).map fun q => if q < j then .int .i64 (pto k n q : Nat) else .int .i64 0
@[simp] theorem ilst_length (k : List UInt8) (n j : Nat) : (ilst k n j).length = n := by simp [ilst]
theorem ilst_zero (k : List UInt8) (n : Nat) : ilst k n 0 = List.replicate n (.int .i64 0) := by
  apply List.ext_getElem?
  intro q
  simp only [ilst, List.getElem?_map, List.getElem?_replicate]
  by_cases h : q < n
  · simp [h]
  · simp [h]
theorem ilst_step (k : List UInt8) (n j : Nat) : (ilst k n j).set j (.int .i64 (pto k n j : Nat)) = ilst k n (j + 1) := by
  apply List.ext_getElem?
  intro q
  rw [List.getElem?_set]
  simp only [ilst, List.getElem?_map, List.length_map, List.length_range]
  by_cases h : q < n
  · by_cases e : j = q
    · subst e; simp [h]
    · have : (q < j) ↔ (q < j + 1) := by omega
      simp [h, e, this]
  · by_cases e : j = q
    · subst e; simp [h]
    · simp [h, e]
theorem ilst_at (k : List UInt8) (n q : Nat) (h : q < n) : (ilst k n n)[q]? = some (.int .i64 (pto k n q : Nat)) := by
  simp [ilst, h]
/-- which places were there already -/
def blst (k : List UInt8) (n j : Nat) : List Value := (List.range n).map fun q => .bool (decide (pfrom k n q < j))
@[simp] theorem blst_length (k : List UInt8) (n j : Nat) : (blst k n j).length = n := by simp [blst]
theorem blst_zero (k : List UInt8) (n : Nat) : blst k n 0 = List.replicate n (.bool false) := by
  apply List.ext_getElem?
  intro q
  simp only [blst, List.getElem?_map, List.getElem?_replicate]
  by_cases h : q < n
  · simp [h]
  · simp [h]
theorem blst_at (k : List UInt8) (n j : Nat) (hn : n ≤ 1048576) (h : j < n) : (blst k n j)[pto k n j]? = some (.bool false) := by
  have := pto_lt (k := k) hn h
  have e := pfrom_pto (k := k) hn h
  simp [blst, this, e]
theorem blst_step (k : List UInt8) (n j : Nat) (hn : n ≤ 1048576) (hj : j < n) : (blst k n j).set (pto k n j) (.bool true) = blst k n (j + 1) := by
  have hp := pto_lt (k := k) hn hj
  have e := pfrom_pto (k := k) hn hj
  apply List.ext_getElem?
  intro q
  rw [List.getElem?_set]
  simp only [blst, List.getElem?_map, List.length_map, List.length_range]
  by_cases h : q < n
  · by_cases e1 : pto k n j = q
    · subst e1; simp [h, e]
    · have h2 : pfrom k n q ≠ j := fun e2 => e1 (by rw [← e2, pto_pfrom hn h])
      have : (pfrom k n q < j) ↔ (pfrom k n q < j + 1) := by omega
      simp [h, e1, this]
  · by_cases e1 : pto k n j = q
    · omega
    · simp [h, e1]
end Go.Proofs.YtgpojlblhaphnaaDoor.Da
namespace Go.Proofs.YtgpojlblhaphnaaDoor
open Go.RowKit
set_option linter.unusedVariables false
set_option linter.unusedSimpArgs false
theorem info_bool11 : (Tryd.prog.info? 4).map (fun i => (i.zero, i.size, i.bytes)) = some (some (.bool false), 1, 1) := by kernel_rfl
theorem info_int11 : (Tryd.prog.info? 3).map (fun i => (i.zero, i.size, i.bytes)) = some (some (.int .i64 0), 1, 8) := by kernel_rfl
set_option maxRecDepth 100000 in
theorem make_bools11 (N : Nat) (h : N ≤ 2000) (W : World) : (Instr.makeSlice 40 (.int .i64 (N : Int)) (.int .i64 (N : Int))).run Tryd.prog W = .ok (.slice (some ⟨W.heap.size, 0, none⟩) N N) (W.alloc (.cells (Array.replicate N (.bool false)) 4)) := by
  have hi := info_bool11
  cases hh : Tryd.prog.info? 4 with
  | none => rw [hh] at hi; cases hi
  | some i =>
    rw [hh] at hi
    simp only [Option.map_some, Option.some.injEq, Prod.mk.injEq] at hi
    have := run_make (P := Tryd.prog) W 40 4 i (.bool false) Tryd.underlying40 hh hi.1 .i64 .i64 (N : Int) (N : Int) (by omega) (by omega) (by rw [hi.2.2]; omega) (by omega)
    rw [this, hi.2.1]
    simp only [Int.toNat_natCast, Nat.mul_one]
    congr 3
    apply Array.ext
    · simp [madeCells]
    · intro k h1 h2
      simp [madeCells, Value.cells]
      rw [Nat.mod_one]; rfl
set_option maxRecDepth 100000 in
theorem make_ints11 (N : Nat) (h : N ≤ 2000) (W : World) : (Instr.makeSlice 38 (.int .i64 (N : Int)) (.int .i64 (N : Int))).run Tryd.prog W = .ok (.slice (some ⟨W.heap.size, 0, none⟩) N N) (W.alloc (.cells (Array.replicate N (.int .i64 0)) 3)) := by
  have hi := info_int11
  cases hh : Tryd.prog.info? 3 with
  | none => rw [hh] at hi; cases hi
  | some i =>
    rw [hh] at hi
    simp only [Option.map_some, Option.some.injEq, Prod.mk.injEq] at hi
    have := run_make (P := Tryd.prog) W 38 3 i (.int .i64 0) Tryd.underlying38 hh hi.1 .i64 .i64 (N : Int) (N : Int) (by omega) (by omega) (by rw [hi.2.2]; omega) (by omega)
    rw [this, hi.2.1]
    simp only [Int.toNat_natCast, Nat.mul_one]
    congr 3
    apply Array.ext
    · simp [madeCells]
    · intro k h1 h2
      simp [madeCells, Value.cells]
      rw [Nat.mod_one]; rfl
/-- what each operation has as its result -/
def SlG (g p n m : Nat) (base : Nat) (i : Nat) (v : Value) (W : World) : Prop :=
  match i with
  | 0 => v = .pointer (some ⟨g, 0, none⟩)
  | 1 => v = .pointer (some ⟨g, 0, none⟩)
  | 2 => v = .pointer (some ⟨g, 0, none⟩)
  | 3 => v = .int .i64 (n : Int)
  | 4 => ∃ b, v = .slice (some ⟨b, 0, none⟩) n n ∧ base ≤ b ∧ Arr W b 3 (List.replicate n (.int .i64 0))
  | 5 => v = .pointer (some ⟨g, 0, none⟩)
  | 6 => v = .pointer (some ⟨g, 0, none⟩)
  | 7 => v = .pointer (some ⟨g, 1, none⟩)
  | 8 => v = .agg #[.pointer (some ⟨p, 0, none⟩), .int .i64 (m : Int)]
  | 9 => v = .func (.func 23) #[.agg #[.pointer (some ⟨p, 0, none⟩), .int .i64 (m : Int)]] #[]
  | 10 => ∃ b, v = .slice (some ⟨b, 0, none⟩) n n ∧ base ≤ b ∧ Arr W b 3 (List.replicate n (.int .i64 0))
  | 11 => v = .func (.func 23) #[.agg #[.pointer (some ⟨p, 0, none⟩), .int .i64 (m : Int)]] #[]
  | _ => True
theorem SlG.later {g p n m base : Nat} (i : Nat) (u : Value) (v v' : World) (h : SlG g p n m base i u v) (hb : Below v.heap.size v v') : SlG g p n m base i u v' := by
  unfold SlG at *
  split at h
  · exact h
  · exact h
  · exact h
  · exact h
  · obtain ⟨b, e, hg, hh⟩ := h
    exact ⟨b, e, hg, hh.later hb hh.lt⟩
  · exact h
  · exact h
  · exact h
  · exact h
  · exact h
  · obtain ⟨b, e, hg, hh⟩ := h
    exact ⟨b, e, hg, hh.later hb hh.lt⟩
  · exact h
  · trivial
def SlAt (k : List UInt8) (n b : Nat) (w : World) (i : Value) (wr : World) : Prop :=
  ∃ j : Nat, j ≤ n ∧ i = .int .i64 (j : Int) ∧ Arr wr b 3 (Da.ilst k n j) ∧ Below w.heap.size w wr
set_option maxRecDepth 100000 in
set_option maxHeartbeats 2000000 in
theorem sall_any (g p : Nat) (k : List UInt8) (n : Nat) (hn : n ≤ 1024) (w : World) (hO : OrdAt w g p k n) (hV : Cds w) :
    Calls Tryd.prog 18 #[.pointer (some ⟨g, 0, none⟩)] w fun e w' => ∃ b, e = .returned (.slice (some ⟨b, 0, none⟩) n n) ∧ Arr w' b 3 (Da.ilst k n n) ∧ Below w.heap.size w w' := by
  have hmf := @makes Tryd.prog
  have hc := hO.size
  have HO := Lib.hid hO
  have HV := Lib.hid hV
  have CO := Lib.hid (fun x hx v hb => ocome_any g p k n (by omega) x hx v (hO.later hb) (hV.later hb))
  have HP : Hid (∀ x, Da.pl (Da.son k (Da.bw n)) n (4 ^ Da.bw n) x = Da.pto k n x) := Lib.hid (fun x => rfl)
  have hst := hO.steps
  obtain ⟨m, hm⟩ : ∃ m, Da.bw n = m := ⟨_, rfl⟩
  have HCO : Hid (∀ (x : Nat), x < n → ∀ v, Below w.heap.size w v → Calls Tryd.prog 28 #[.pointer (some ⟨g, 0, none⟩), .func (.func 23) #[.agg #[.pointer (some ⟨p, 0, none⟩), .int .i64 (m : Int)]] #[], .int .i64 (x : Int)] v fun e w' => e = .returned (.int .i64 ((Da.pto k n x : Nat) : Int)) ∧ Below v.heap.size v w') := Lib.hid (fun x hx v hb => by
    have := CO.out x hx v hb
    rw [HP.out, hm] at this
    exact this)
  have HM := Lib.hid hm
  have HSU : Hid (Tryd.prog.underlying 44 = _) := Lib.hid Tryd.underlying44
  have hd1 : decide ((n : Int) > 1024) = false := by simp; omega
  clear hO hV CO HP hst hm
  go_enter Tryd.func18, Tryd.ntmps18
  go_wp2_with fail
  refine Code.wp_mono (Q := fun e b' v => e = .normal ∧ ∃ (b : Nat) (f : Nat → Value), w.heap.size ≤ b ∧ Below w.heap.size w v ∧ Arr v b 3 (List.replicate n (.int .i64 0)) ∧ b' = { tmps := #[.pointer (some ⟨g, 0, none⟩), f 1, .slice none 0 0, .slice (some ⟨b, 0, none⟩) n n, .func (.func 23) #[.agg #[.pointer (some ⟨p, 0, none⟩), .int .i64 (m : Int)]] #[], f 5, f 6, f 7, f 8, f 9, f 10, f 11, f 12, f 13, f 14, f 15, f 16, f 17, f 18, f 19, f 20, f 21, f 22, f 23, f 24, f 25, f 26, f 27, f 28, f 29, f 30, f 31, f 32, f 33, f 34], defers := [] }) ?rest ?reg
  case reg =>
    refine Rg.region_growL (by kernel_rfl) (SlG g p n m w.heap.size) (by kernel_rfl) SlG.later ?gd ?step ?fin
    case gd =>
      intro i o k t ho hg
      have hi := (Array.getElem?_eq_some_iff.1 ho).1
      match i, hi with
      | 0, _ => obtain rfl := Option.some.inj ho; cases hg
      | 1, _ => obtain rfl := Option.some.inj ho; cases hg
      | 2, _ => obtain rfl := Option.some.inj ho; cases hg
      | 3, _ => obtain rfl := Option.some.inj ho; cases hg
      | 4, _ => obtain rfl := Option.some.inj ho; cases hg
      | 5, _ => obtain rfl := Option.some.inj ho; cases hg
      | 6, _ => obtain rfl := Option.some.inj ho; cases hg
      | 7, _ => obtain rfl := Option.some.inj ho; cases hg
      | 8, _ => obtain rfl := Option.some.inj ho; cases hg
      | 9, _ => obtain rfl := Option.some.inj ho; cases hg
      | 10, _ => obtain rfl := Option.some.inj ho; cases hg
      | 11, _ => obtain rfl := Option.some.inj ho; cases hg
      | m + 12, h => exact absurd h (by simp)
    case step =>
      intro i op b' v ho hb hrest hdep
      have hi := (Array.getElem?_eq_some_iff.1 ho).1
      have r0 : b'.eval (.tmp 0) = .pointer (some ⟨g, 0, none⟩) := hrest 0 (Rg.free_spec (by kernel_rfl))
      match i, hi with
      | 0, _ =>
        obtain rfl := Option.some.inj ho
        exact Rg.does_move rfl r0
      | 1, _ =>
        obtain rfl := Option.some.inj ho
        have d1 : b'.eval (.tmp 11) = .pointer (some ⟨g, 0, none⟩) := hdep ⟨0, .data⟩ (by simp) rfl _ _ rfl rfl
        have f1 : b'.tmps[11]?.getD undef = _ := (show _ = b'.eval (.tmp 11) by simp [Act.eval]).trans d1
        refine Rg.does_pure (.pointer (some ⟨g, 0, none⟩)) ?_ rfl
        simp only [execOp]
        go_simp
      | 2, _ =>
        obtain rfl := Option.some.inj ho
        have d1 : b'.eval (.tmp 12) = .pointer (some ⟨g, 0, none⟩) := hdep ⟨1, .data⟩ (by simp) rfl _ _ rfl rfl
        have f1 : b'.tmps[12]?.getD undef = _ := (show _ = b'.eval (.tmp 12) by simp [Act.eval]).trans d1
        refine Rg.does_pure (.pointer (some ⟨g, 0, none⟩)) ?_ rfl
        simp only [execOp]
        go_simp
      | 3, _ =>
        obtain rfl := Option.some.inj ho
        have d1 : b'.eval (.tmp 13) = .pointer (some ⟨g, 0, none⟩) := hdep ⟨2, .data⟩ (by simp) rfl _ _ rfl rfl
        have f1 : b'.tmps[13]?.getD undef = _ := (show _ = b'.eval (.tmp 13) by simp [Act.eval]).trans d1
        have hc := (HO.out.later hb).size
        refine Rg.does_pure (.int .i64 (n : Int)) ?_ rfl
        simp only [execOp]
        go_simp
      | 4, _ =>
        obtain rfl := Option.some.inj ho
        have d1 : b'.eval (.tmp 14) = .int .i64 (n : Int) := hdep ⟨3, .data⟩ (by simp) rfl _ _ rfl rfl
        have f1 : b'.tmps[14]?.getD undef = _ := (show _ = b'.eval (.tmp 14) by simp [Act.eval]).trans d1
        have hmk := make_ints11 n (by omega) v
        refine Rg.does_new (v' := v.alloc (.cells (Array.replicate n (.int .i64 0)) 3)) (.slice (some ⟨v.heap.size, 0, none⟩) n n) ?_ ⟨v.heap.size, rfl, hb.size, by have := Arr.made v 3 (List.replicate n (.int .i64 0)); simpa using this⟩ ((Below.refl _ _).alloc (Nat.le_refl _) _)
        simp only [execOp]
        go_simp
      | 5, _ =>
        obtain rfl := Option.some.inj ho
        exact Rg.does_move rfl r0
      | 6, _ =>
        obtain rfl := Option.some.inj ho
        have d1 : b'.eval (.tmp 16) = .pointer (some ⟨g, 0, none⟩) := hdep ⟨5, .data⟩ (by simp) rfl _ _ rfl rfl
        have f1 : b'.tmps[16]?.getD undef = _ := (show _ = b'.eval (.tmp 16) by simp [Act.eval]).trans d1
        refine Rg.does_pure (.pointer (some ⟨g, 0, none⟩)) ?_ rfl
        simp only [execOp]
        go_simp
      | 7, _ =>
        obtain rfl := Option.some.inj ho
        have d1 : b'.eval (.tmp 17) = .pointer (some ⟨g, 0, none⟩) := hdep ⟨6, .data⟩ (by simp) rfl _ _ rfl rfl
        have f1 : b'.tmps[17]?.getD undef = _ := (show _ = b'.eval (.tmp 17) by simp [Act.eval]).trans d1
        refine Rg.does_pure (.pointer (some ⟨g, 1, none⟩)) ?_ rfl
        simp only [execOp]
        go_simp
      | 8, _ =>
        obtain rfl := Option.some.inj ho
        have d1 : b'.eval (.tmp 18) = .pointer (some ⟨g, 1, none⟩) := hdep ⟨7, .data⟩ (by simp) rfl _ _ rfl rfl
        have hrg : v.rangeAt g 1 [.pointer (some ⟨p, 0, none⟩), .int .i64 (m : Int)] := by rw [← HM.out]; exact (HO.out.later hb).steps
        exact Rg.does_pure (.agg #[.pointer (some ⟨p, 0, none⟩), .int .i64 (m : Int)]) (St.exec_load rfl d1 [.pointer (some ⟨p, 0, none⟩), .int .i64 (m : Int)] _ hrg HSU.out rfl stp_size) rfl
      | 9, _ =>
        obtain rfl := Option.some.inj ho
        have d1 : b'.eval (.tmp 19) = .agg #[.pointer (some ⟨p, 0, none⟩), .int .i64 (m : Int)] := hdep ⟨8, .data⟩ (by simp) rfl _ _ rfl rfl
        have f1 : b'.tmps[19]?.getD undef = _ := (show _ = b'.eval (.tmp 19) by simp [Act.eval]).trans d1
        refine Rg.does_pure (.func (.func 23) #[.agg #[.pointer (some ⟨p, 0, none⟩), .int .i64 (m : Int)]] #[]) ?_ rfl
        simp only [execOp]
        go_simp
      | 10, _ =>
        obtain rfl := Option.some.inj ho
        have d1 : ∃ b, b'.eval (.tmp 15) = .slice (some ⟨b, 0, none⟩) n n ∧ w.heap.size ≤ b ∧ Arr v b 3 (List.replicate n (.int .i64 0)) := hdep ⟨4, .data⟩ (by simp) rfl _ _ rfl rfl
        exact Rg.does_assign rfl d1
      | 11, _ =>
        obtain rfl := Option.some.inj ho
        have d1 : b'.eval (.tmp 20) = .func (.func 23) #[.agg #[.pointer (some ⟨p, 0, none⟩), .int .i64 (m : Int)]] #[] := hdep ⟨9, .data⟩ (by simp) rfl _ _ rfl rfl
        exact Rg.does_assign rfl d1
      | q + 12, h => exact absurd h (by simp)
    case fin =>
      intro b' v hb hs hd hrest hall
      have r0 : b'.tmps.getD 0 undef = .pointer (some ⟨g, 0, none⟩) := hrest 0 (Rg.free_spec (by kernel_rfl))
      have r2 : b'.tmps.getD 2 undef = .slice none 0 0 := hrest 2 (Rg.free_spec (by kernel_rfl))
      obtain ⟨b, e3, hbb, hA⟩ := hall 10 _ 3 rfl rfl
      have e4 : b'.tmps.getD 4 undef = .func (.func 23) #[.agg #[.pointer (some ⟨p, 0, none⟩), .int .i64 (m : Int)]] #[] := hall 11 _ 4 rfl rfl
      refine ⟨rfl, b, fun i => b'.tmps.getD i undef, hbb, hb, hA, ?_⟩
      have e := Rg.litG b'.tmps 35 hs
      obtain ⟨tm, df⟩ := b'
      obtain rfl : df = [] := hd
      dsimp only at r0 r2 e3 e4 e ⊢
      show ({ tmps := tm, defers := [] } : Act) = _
      congr 1
      refine e.trans ?_
      rw [← r0, ← r2, ← e3, ← e4]
      rfl
  case rest =>
    rintro e a' W2 ⟨rfl, b, f, hbb, hb2, hA, rfl⟩
    rename_i K0 hK0
    show K0 _ _
    refine hK0 _ _ ?_
    clear hK0 K0
    have HA := Lib.hid hA
    have HB2 := Lib.hid hb2
    have HBB := Lib.hid hbb
    clear hb2 hA hbb
    go_wp2_with fail
    go_loopw [23] (fun i wr => SlAt k n b w i wr) (fun i _ => n - (intOf i).toNat)
    case atStart => exact ⟨0, Nat.zero_le _, rfl, by rw [Da.ilst_zero]; exact HA.out, HB2.out⟩
    case round =>
      obtain ⟨j, hj, rfl, hA, hB⟩ := hrel
      by_cases hlt : j < n
      · have CO := Lib.hid (HCO.out j hlt wr hB)
        have HS := Lib.hid (Da.ilst_step k n j)
        obtain ⟨T, hT⟩ : ∃ T : Int, ((Da.pto k n j : Nat) : Int) = T := ⟨_, rfl⟩
        rw [hT] at CO HS
        have HA := Lib.hid hA
        have HB := Lib.hid hB
        clear hA hB hT
        go_wp2_with fail
        refine CO.out.mono ?_
        rintro e W3 ⟨rfl, hb3⟩
        have hA3 := HA.out.later hb3 HA.out.lt
        have hB3 := Kit.step HB.out hb3
        have hcell : W3.cell? ⟨b, j, none⟩ = (Da.ilst k n j)[j]? := hA3.cell j
        have hcl : ∃ u, W3.cell? ⟨b, j, none⟩ = some u := by rw [hcell]; exact ⟨_, List.getElem?_eq_getElem (by simpa using hlt)⟩
        obtain ⟨u, hcl⟩ := hcl
        have hfz := hA3.frozen j
        have HA3 := Lib.hid hA3
        have HB3 := Lib.hid hB3
        clear hA3 hB3 hb3 CO hcell
        go_wp2_with fail
        refine ⟨⟨j + 1, by omega, by go_num, ?_, HA3.out.below HB3.out HBB.out _ _⟩, by simp [intOf]; omega⟩
        rw [← HS.out]
        exact HA3.out.set j _
      · obtain rfl : j = n := by omega
        have HA := Lib.hid hA
        have HB := Lib.hid hB
        clear hA hB
        go_wp2_with fail
        go_ret
        exact ⟨b, rfl, HA.out, HB.out⟩
set_option maxRecDepth 100000 in
theorem sall_none (g p : Nat) (k : List UInt8) (n : Nat) (hn : 1024 < n) (w : World) (hO : OrdAt w g p k n) :
    Calls Tryd.prog 18 #[.pointer (some ⟨g, 0, none⟩)] w fun e w' => e = .returned (.slice none 0 0) ∧ w' = w := by
  have hc := hO.size
  have hd1 : decide ((n : Int) > 1024) = true := by simp; omega
  clear hO
  go_enter Tryd.func18, Tryd.ntmps18
  go_wp2_with fail
  go_ret
  exact ⟨rfl, rfl⟩
end Go.Proofs.YtgpojlblhaphnaaDoor
