/- Label's All: the code's; the rows of keys; Same. -/
import Derived.Test.YtemngcifeglpmaaDoorLd
import Derived.StillTailTactics
namespace Go.Proofs.YtemngcifeglpmaaDoor.Da
def lMask : List UInt8 := [109, 97, 115, 107]
def lPlace : List UInt8 := [112, 108, 97, 99, 101]
def lSent : List UInt8 := [115, 101, 110, 116, 105, 110, 101, 108]
def lTag : List UInt8 := [116, 97, 103]
def lSpot : List UInt8 := [115, 112, 111, 116]
/-- an object's keys -/
def keysL (k : List UInt8) (n : Int) : List (List UInt8) := [keyL k lMask n, keyL k lPlace n, keyL k lSent n, keyL k lTag n, keyL k lSpot n]
def ares (b : Nat) (l : List (List UInt8)) : List (List UInt8) := if b = 0 then l else [[], [], [], [], []]
end Go.Proofs.YtemngcifeglpmaaDoor.Da
namespace Go.Proofs.YtemngcifeglpmaaDoor
open Go.RowKit
set_option linter.unusedVariables false
set_option linter.unusedSimpArgs false
theorem lk_info : (Tryd.prog.info? 36).map (·.size) = some 5 := by kernel_rfl
theorem k5_info : (Tryd.prog.info? 39).map (·.size) = some 5 := by kernel_rfl
theorem k5_under : Tryd.prog.underlying 39 = some (.array 5 22) := by kernel_rfl
def nil5 : List Value := [.slice none 0 0, .slice none 0 0, .slice none 0 0, .slice none 0 0, .slice none 0 0]
theorem lk_zero (w : World) : Sem.run Tryd.prog (zeroValue 36) w = .ok (.agg nil5.toArray) w := by kernel_rfl
theorem k5_zero (w : World) : Sem.run Tryd.prog (zeroValue 39) w = .ok (.agg nil5.toArray) w := by kernel_rfl
theorem lk_built0 : Tryd.prog.built 36 [] = some nil5.toArray := by kernel_rfl
theorem k5_built0 : Tryd.prog.built 39 [] = some nil5.toArray := by kernel_rfl
theorem lk_built (o0 o1 o2 o3 o4 : Option Addr) (l0 l1 l2 l3 l4 c0 c1 c2 c3 c4 : Nat) :
    Tryd.prog.built 36 [(0, .slice o0 l0 c0), (1, .slice o1 l1 c1), (2, .slice o2 l2 c2), (3, .slice o3 l3 c3), (4, .slice o4 l4 c4)] = some [.slice o0 l0 c0, .slice o1 l1 c1, .slice o2 l2 c2, .slice o3 l3 c3, .slice o4 l4 c4].toArray := by kernel_rfl
theorem k5_built (o0 o1 o2 o3 o4 : Option Addr) (l0 l1 l2 l3 l4 c0 c1 c2 c3 c4 : Nat) :
    Tryd.prog.built 39 [(0, .slice o0 l0 c0), (1, .slice o1 l1 c1), (2, .slice o2 l2 c2), (3, .slice o3 l3 c3), (4, .slice o4 l4 c4)] = some [.slice o0 l0 c0, .slice o1 l1 c1, .slice o2 l2 c2, .slice o3 l3 c3, .slice o4 l4 c4].toArray := by kernel_rfl
theorem sl5_one (o0 o1 o2 o3 o4 : Option Addr) (l0 l1 l2 l3 l4 c0 c1 c2 c3 c4 : Nat) :
    ([.slice o0 l0 c0, .slice o1 l1 c1, .slice o2 l2 c2, .slice o3 l3 c3, .slice o4 l4 c4] : List Value).toArray.all (·.oneCell') = true :=
  all_oneCell_toArray (fun v hv => by
    simp only [List.mem_cons, List.not_mem_nil, or_false] at hv
    rcases hv with rfl | rfl | rfl | rfl | rfl <;> rfl)
theorem res_ct {P : Program} {fn : Func} {p u : Tmp} {ty : TypeId} (h : fn.results = #[.cell p ty, .tmp u]) (tmps : Array Value) (w : World) (g : Nat) (t : TypeId) (cs : Array Value) (fr : Nat × Nat) (d : TypeDesc)
    (hp : tmps.getD p undef = .pointer (some ⟨g, 0, none⟩)) (hg : w.heap[g]? = some (.cells cs t fr))
    (hu : P.underlying ty = some d) (hd : (match d with | .struct _ | .array _ _ => true | _ => false) = true) (hi : (P.info? ty).map (·.size) = some cs.size) :
    (results fn tmps).run P w = .ok (.tuple #[.agg cs, tmps.getD u undef]) w := by
  rw [results_cell_tmp h, hp]
  simp [asAddr, run_loadVar_row w g t ty cs fr d hg hu hd hi]
theorem exec_blt0 {P : Program} {o : Oper} {a : Act} {T : TypeId} {Z : Array Value} (ho : o.op = .build T #[]) (hb : P.built T [] = some Z) (v : World) : (execOp a.eval o).run P v = .ok (.value (.agg Z)) v := by
  have e : (((#[] : Array (Nat × Operand)).map fun (i, x) => (i, a.eval x))) = #[] := by simp
  have h := run_build (P := P) v T #[] Z hb
  simp [execOp, ho, h, Result.andThen]
/-- the store elsewhere leaves a sentinel's cell -/
theorem cell_row {w : World} {g e : Nat} {v : Value} (h : w.cell? ⟨e, 0, none⟩ = some v) (C : Array Value) (hne : e ≠ g) : (w.setRow g C).cell? ⟨e, 0, none⟩ = some v := by
  unfold World.cell?
  rw [setRow_other _ _ _ _ hne]
  exact h
/-- a new block that holds the bytes -/
structure Rnew (w w' : World) (g : Nat) (z : List UInt8) : Prop where
  le : w.heap.size ≤ g
  arr : Arr w' g 61 (bytesV z)
theorem Rnew.later {w w' w'' : World} {g : Nat} {z : List UInt8} (h : Rnew w w' g z) (hb : Below w'.heap.size w' w'') : Rnew w w'' g z := ⟨h.le, h.arr.later hb h.arr.lt⟩
theorem Rnew.row {w w' : World} {g : Nat} {z : List UInt8} (h : Rnew w w' g z) (hz : z.length = 32) (h' : Nat) (C : Array Value) (hh : h' ≠ g) : RowV z (.slice (some ⟨g, 0, none⟩) 32 32) (w'.setRow h' C) := by
  have hA : Arr (w'.setRow h' C) g 61 (bytesV z) := by unfold Arr; rw [setRow_other _ _ _ _ (fun e => hh e.symm)]; exact h.arr
  have := hA.row (by rw [hz]; unfold maxLen; decide)
  exact ⟨_, 32, by rw [hz], by rw [hz] at this; exact this⟩
theorem ko1_rv (k : List UInt8) (n : Int) (b : Nat) (s : ByteArray) (hs : s.size ≤ 1000) (w : World) (hO : KO k n b w) (hV : Cds w) :
    Calls Tryd.prog 27 #[.string s, .pointer (some ⟨b, 0, none⟩), .pointer (some ⟨b + 1, 0, none⟩)] w fun e w' => ∃ g, e = .returned (.slice (some ⟨g, 0, none⟩) 32 32) ∧ Rnew w w' g (Da.keyL k s.data.toList n) ∧ Below w.heap.size w w' := by
  refine (ko1_any k n b s hs w hO hV).mono ?_
  rintro e w' ⟨g, rfl, hle, ha, hb⟩
  exact ⟨g, rfl, ⟨hle, ha⟩, hb⟩
theorem els_nil5 (w : World) : Els w [[], [], [], [], []] nil5 :=
  ((((Els.one (RowV.nil w)).app (Els.one (RowV.nil w))).app (Els.one (RowV.nil w))).app (Els.one (RowV.nil w))).app (Els.one (RowV.nil w))
set_option maxRecDepth 100000 in
set_option maxHeartbeats 1000000 in
theorem lall_of (Z : Array Value) (hZ : Z = nil5.toArray) (hzs : ∀ w, Sem.run Tryd.prog (zeroValue 36) w = .ok (.agg Z) w) (hbu : Tryd.prog.built 36 [] = some Z)
    (k : List UInt8) (o : Option Addr) (c : Nat) (n : Int) (A : Nat → Addr) (w : World) (hR : RowIs w o (bytesV k) c) (hV : Cds w) (hE : Er.E9 w A) (hl : k.length ≤ 900000) :
    Calls Tryd.prog 15 #[.slice o k.length c, .int .i64 n] w fun e w' => ∃ xs : List Value, e = .returned (.tuple #[.agg xs.toArray, errV A (Da.abad (Da.isMas k.length) (Da.inR n))]) ∧
      Els w' (Da.ares (Da.abad (Da.isMas k.length) (Da.inR n)) (Da.keysL k n)) xs ∧ Below w.heap.size w w' := by
  obtain ⟨g, hg⟩ : ∃ g, w.heap.size = g := ⟨_, rfl⟩
  obtain ⟨W1, hW1⟩ : ∃ W1, w.alloc (Obj.cells Z 36) = W1 := ⟨_, rfl⟩
  have hb1 : Below w.heap.size w W1 := by rw [← hW1]; exact (Below.refl _ _).alloc (Nat.le_refl _) _
  have hA1 : Arr W1 g 36 Z.toList := by rw [← hW1, ← hg]; exact Arr.made _ _ _
  have KF := Lib.hid (keysof_any k o c n W1 (hR.later hb1) (hV.later hb1) hl)
  have LM := Lib.hid (lmas_any o k.length c W1)
  have LR := Lib.hid (lran_any n W1)
  have hE1 := hE.later hb1
  have hE0 := hE1.c0
  have hE8 := hE1.c8
  have HBU := Lib.hid hbu
  have HEW := Lib.hid hE
  have HNE : Hid (∀ (e : Nat) (v : Value), w.cell? ⟨e, 0, none⟩ = some v → e < g) := Lib.hid fun e v hc => by
    have := Er.cell_lt9 hc
    omega
  have HZS : Hid ((Tryd.prog.info? 36).map (·.size) = some Z.size) := Lib.hid (by rw [lk_info, hZ]; rfl)
  have HZO : Hid (Z.all (·.oneCell') = true) := Lib.hid (by rw [hZ]; exact all_oneCell_toArray (fun v hv => by simp only [nil5, List.mem_cons, List.not_mem_nil, or_false, or_self] at hv; subst hv; rfl))
  have HA1 : Hid (W1.heap[g]? = some (.cells Z 36 (0, 0))) := Lib.hid hA1
  have HV1 := Lib.hid (hV.later hb1)
  have HB1 := Lib.hid hb1
  have HW1 := Lib.hid hW1
  have HG := Lib.hid hg
  have HZ := Lib.hid hZ
  obtain ⟨m, hm⟩ : ∃ m, Da.isMas k.length = m := ⟨_, rfl⟩
  obtain ⟨r, hr⟩ : ∃ r, Da.inR n = r := ⟨_, rfl⟩
  rw [hm] at LM ⊢
  rw [hr] at LR ⊢
  clear hR hV hE hm hr hb1 hA1 hE1 hW1 hg hZ
  go_enter Tryd.func15, Tryd.ntmps15
  go_wp2_with (first | rw [HW1.out, HG.out])
  refine LM.out.mono ?_
  rintro e w1 ⟨rfl, rfl⟩
  cases m with
  | false =>
    have hc7 : w1.drew.cell? ⟨0, 0, none⟩ = _ := hE8
    have hc8 := cell_row hc7 Z (Nat.ne_of_lt (HNE.out _ _ HEW.out.c8))
    clear hE0 hE8
    go_upto_region 2 with fail
    refine wp_region_any (by kernel_rfl) ?_
    change wpAny _ _ _ _ _ _ _ (World.drew _)
    refine wpAny_take (i := 0) (v := .agg Z) rfl (by kernel_rfl) (by kernel_rfl) (by kernel_rfl) (fun _ _ _ h => h) (Or.inl ⟨by rfl, fun v => exec_blt0 rfl HBU.out v⟩) ?_
    refine wpAny_ready (rs := [1, 2]) (by kernel_rfl) (by simp) ?_
    refine AllReady.cons rfl (fun K hK => ?_) (AllReady.cons rfl (fun K hK => ?_) AllReady.nil)
    · go_simp
      refine hK _ _ ?_
      clear hK K
      refine wpAny_ready (rs := [2]) (by kernel_rfl) (by simp) ?_
      refine AllReady.cons rfl (fun K hK => ?_) AllReady.nil
      rw [if_pos (by rfl)]
      refine wp_store_row 36 (.tmp 4) (.tmp 11) rfl g Z rfl rfl 36 Z HA1.out HZS.out rfl HZO.out (hK _ _ ?_)
      clear hK K
      refine wpAny_ready (rs := [3]) (by kernel_rfl) (by simp) ?_
      refine AllReady.cons rfl (fun K hK => ?_) AllReady.nil
      go_simp
      refine hK _ _ ?_
      clear hK K
      refine wpAny_done (by kernel_rfl) ?_ _
      go_wp2_with fail
      refine bodyPost_ret (res_ct rfl _ _ g 36 Z (0, 0) _ rfl (setRow_heap w1.drew _ _ _ _ _ HA1.out) Tryd.underlying36 rfl HZS.out) rfl ?_
      exact ⟨nil5, by rw [HZ.out]; rfl, els_nil5 _, (Kit.dn HB1.out 1).trans (below_row (Nat.le_of_eq HG.out))⟩
    · rw [if_pos (by rfl)]
      refine wp_store_row 36 (.tmp 4) (.tmp 11) rfl g Z rfl rfl 36 Z HA1.out HZS.out rfl HZO.out (hK _ _ ?_)
      clear hK K
      refine wpAny_ready (rs := [1]) (by kernel_rfl) (by simp) ?_
      refine AllReady.cons rfl (fun K hK => ?_) AllReady.nil
      go_simp
      refine hK _ _ ?_
      clear hK K
      refine wpAny_ready (rs := [3]) (by kernel_rfl) (by simp) ?_
      refine AllReady.cons rfl (fun K hK => ?_) AllReady.nil
      go_simp
      refine hK _ _ ?_
      clear hK K
      refine wpAny_done (by kernel_rfl) ?_ _
      go_wp2_with fail
      refine bodyPost_ret (res_ct rfl _ _ g 36 Z (0, 0) _ rfl (setRow_heap w1.drew _ _ _ _ _ HA1.out) Tryd.underlying36 rfl HZS.out) rfl ?_
      exact ⟨nil5, by rw [HZ.out]; rfl, els_nil5 _, (Kit.dn HB1.out 1).trans (below_row (Nat.le_of_eq HG.out))⟩
  | true =>
    go_wp2_with fail
    refine LR.out.mono ?_
    rintro e w1 ⟨rfl, rfl⟩
    cases r with
    | false =>
      have hc7 : w1.drew.cell? ⟨2, 0, none⟩ = _ := hE0
      have hc8 := cell_row hc7 Z (Nat.ne_of_lt (HNE.out _ _ HEW.out.c0))
      clear hE0 hE8
      go_upto_region 4 with fail
      refine wp_region_any (by kernel_rfl) ?_
      change wpAny _ _ _ _ _ _ _ (World.drew _)
      refine wpAny_take (i := 0) (v := .agg Z) rfl (by kernel_rfl) (by kernel_rfl) (by kernel_rfl) (fun _ _ _ h => h) (Or.inl ⟨by rfl, fun v => exec_blt0 rfl HBU.out v⟩) ?_
      refine wpAny_ready (rs := [1, 2]) (by kernel_rfl) (by simp) ?_
      refine AllReady.cons rfl (fun K hK => ?_) (AllReady.cons rfl (fun K hK => ?_) AllReady.nil)
      · go_simp
        refine hK _ _ ?_
        clear hK K
        refine wpAny_ready (rs := [2]) (by kernel_rfl) (by simp) ?_
        refine AllReady.cons rfl (fun K hK => ?_) AllReady.nil
        rw [if_pos (by rfl)]
        refine wp_store_row 36 (.tmp 4) (.tmp 17) rfl g Z rfl rfl 36 Z HA1.out HZS.out rfl HZO.out (hK _ _ ?_)
        clear hK K
        refine wpAny_ready (rs := [3]) (by kernel_rfl) (by simp) ?_
        refine AllReady.cons rfl (fun K hK => ?_) AllReady.nil
        go_simp
        refine hK _ _ ?_
        clear hK K
        refine wpAny_done (by kernel_rfl) ?_ _
        go_wp2_with fail
        refine bodyPost_ret (res_ct rfl _ _ g 36 Z (0, 0) _ rfl (setRow_heap w1.drew _ _ _ _ _ HA1.out) Tryd.underlying36 rfl HZS.out) rfl ?_
        exact ⟨nil5, by rw [HZ.out]; rfl, els_nil5 _, (Kit.dn HB1.out 1).trans (below_row (Nat.le_of_eq HG.out))⟩
      · rw [if_pos (by rfl)]
        refine wp_store_row 36 (.tmp 4) (.tmp 17) rfl g Z rfl rfl 36 Z HA1.out HZS.out rfl HZO.out (hK _ _ ?_)
        clear hK K
        refine wpAny_ready (rs := [1]) (by kernel_rfl) (by simp) ?_
        refine AllReady.cons rfl (fun K hK => ?_) AllReady.nil
        go_simp
        refine hK _ _ ?_
        clear hK K
        refine wpAny_ready (rs := [3]) (by kernel_rfl) (by simp) ?_
        refine AllReady.cons rfl (fun K hK => ?_) AllReady.nil
        go_simp
        refine hK _ _ ?_
        clear hK K
        refine wpAny_done (by kernel_rfl) ?_ _
        go_wp2_with fail
        refine bodyPost_ret (res_ct rfl _ _ g 36 Z (0, 0) _ rfl (setRow_heap w1.drew _ _ _ _ _ HA1.out) Tryd.underlying36 rfl HZS.out) rfl ?_
        exact ⟨nil5, by rw [HZ.out]; rfl, els_nil5 _, (Kit.dn HB1.out 1).trans (below_row (Nat.le_of_eq HG.out))⟩
    | true =>
      clear hE0 hE8
      go_wp2_with fail
      refine KF.out.mono ?_
      rintro e w2 ⟨b, rfl, hko, hb2⟩
      have HKO := Lib.hid hko
      have HC0 := Lib.hid hb2
      have HKO0 := HKO
      clear hko hb2 KF HKO
      go_upto_region 6 with fail
      apply wp_region_lit
      (refine wpList_plain rfl (fun K hK => ?_); go_simp; refine hK _ _ ?_; clear hK K)
      (refine wpList_plain rfl (fun K hK => ?_); go_simp)
      refine (ko1_rv k n b ⟨#[109, 97, 115, 107]⟩ (by decide) w2 HKO0.out (HV1.out.later HC0.out)).mono ?_
      rintro e X0 ⟨g0, rfl, hr0, hb0⟩
      refine hK _ _ ?_
      clear hK K
      have HKO1 := Lib.hid (HKO0.out.later hb0)
      have HC1 := Lib.hid (Kit.step HC0.out hb0)
      have HR00 : Hid (Rnew w1 X0 g0 (Da.keyL k Da.lMask n)) := Lib.hid ⟨Nat.le_trans HC0.out.size hr0.le, hr0.arr⟩
      clear hr0 hb0 HKO0 HC0
      (refine wpList_plain rfl (fun K hK => ?_); go_simp; refine hK _ _ ?_; clear hK K)
      (refine wpList_plain rfl (fun K hK => ?_); go_simp)
      refine (ko1_rv k n b ⟨#[112, 108, 97, 99, 101]⟩ (by decide) X0 HKO1.out (HV1.out.later HC1.out)).mono ?_
      rintro e X1 ⟨g1, rfl, hr1, hb1⟩
      refine hK _ _ ?_
      clear hK K
      have HKO2 := Lib.hid (HKO1.out.later hb1)
      have HC2 := Lib.hid (Kit.step HC1.out hb1)
      have HR01 := Lib.hid (HR00.out.later hb1)
      have HR11 : Hid (Rnew w1 X1 g1 (Da.keyL k Da.lPlace n)) := Lib.hid ⟨Nat.le_trans HC1.out.size hr1.le, hr1.arr⟩
      clear hr1 hb1 HKO1 HC1 HR00
      (refine wpList_plain rfl (fun K hK => ?_); go_simp; refine hK _ _ ?_; clear hK K)
      (refine wpList_plain rfl (fun K hK => ?_); go_simp)
      refine (ko1_rv k n b ⟨#[115, 101, 110, 116, 105, 110, 101, 108]⟩ (by decide) X1 HKO2.out (HV1.out.later HC2.out)).mono ?_
      rintro e X2 ⟨g2, rfl, hr2, hb2⟩
      refine hK _ _ ?_
      clear hK K
      have HKO3 := Lib.hid (HKO2.out.later hb2)
      have HC3 := Lib.hid (Kit.step HC2.out hb2)
      have HR02 := Lib.hid (HR01.out.later hb2)
      have HR12 := Lib.hid (HR11.out.later hb2)
      have HR22 : Hid (Rnew w1 X2 g2 (Da.keyL k Da.lSent n)) := Lib.hid ⟨Nat.le_trans HC2.out.size hr2.le, hr2.arr⟩
      clear hr2 hb2 HKO2 HC2 HR01 HR11
      (refine wpList_plain rfl (fun K hK => ?_); go_simp; refine hK _ _ ?_; clear hK K)
      (refine wpList_plain rfl (fun K hK => ?_); go_simp)
      refine (ko1_rv k n b ⟨#[116, 97, 103]⟩ (by decide) X2 HKO3.out (HV1.out.later HC3.out)).mono ?_
      rintro e X3 ⟨g3, rfl, hr3, hb3⟩
      refine hK _ _ ?_
      clear hK K
      have HKO4 := Lib.hid (HKO3.out.later hb3)
      have HC4 := Lib.hid (Kit.step HC3.out hb3)
      have HR03 := Lib.hid (HR02.out.later hb3)
      have HR13 := Lib.hid (HR12.out.later hb3)
      have HR23 := Lib.hid (HR22.out.later hb3)
      have HR33 : Hid (Rnew w1 X3 g3 (Da.keyL k Da.lTag n)) := Lib.hid ⟨Nat.le_trans HC3.out.size hr3.le, hr3.arr⟩
      clear hr3 hb3 HKO3 HC3 HR02 HR12 HR22
      (refine wpList_plain rfl (fun K hK => ?_); go_simp; refine hK _ _ ?_; clear hK K)
      (refine wpList_plain rfl (fun K hK => ?_); go_simp)
      refine (ko1_rv k n b ⟨#[115, 112, 111, 116]⟩ (by decide) X3 HKO4.out (HV1.out.later HC4.out)).mono ?_
      rintro e X4 ⟨g4, rfl, hr4, hb4⟩
      refine hK _ _ ?_
      clear hK K
      have HKO5 := Lib.hid (HKO4.out.later hb4)
      have HC5 := Lib.hid (Kit.step HC4.out hb4)
      have HR04 := Lib.hid (HR03.out.later hb4)
      have HR14 := Lib.hid (HR13.out.later hb4)
      have HR24 := Lib.hid (HR23.out.later hb4)
      have HR34 := Lib.hid (HR33.out.later hb4)
      have HR44 : Hid (Rnew w1 X4 g4 (Da.keyL k Da.lSpot n)) := Lib.hid ⟨Nat.le_trans HC4.out.size hr4.le, hr4.arr⟩
      clear hr4 hb4 HKO4 HC4 HR03 HR13 HR23 HR33
      refine wpList_built rfl 36 _ rfl [(0, .slice (some ⟨g0, 0, none⟩) 32 32), (1, .slice (some ⟨g1, 0, none⟩) 32 32), (2, .slice (some ⟨g2, 0, none⟩) 32 32), (3, .slice (some ⟨g3, 0, none⟩) 32 32), (4, .slice (some ⟨g4, 0, none⟩) 32 32)] (by simp [Act.eval]) _ (lk_built _ _ _ _ _ _ _ _ _ _ _ _ _ _ _) ?_
      obtain ⟨F, hF⟩ : ∃ F : Array Value, ([.slice (some ⟨g0, 0, none⟩) 32 32, .slice (some ⟨g1, 0, none⟩) 32 32, .slice (some ⟨g2, 0, none⟩) 32 32, .slice (some ⟨g3, 0, none⟩) 32 32, .slice (some ⟨g4, 0, none⟩) 32 32] : List Value).toArray = F := ⟨_, rfl⟩
      have HFS : Hid ((Tryd.prog.info? 36).map (·.size) = some F.size) := Lib.hid (by rw [lk_info, ← hF]; rfl)
      have HFO : Hid (F.all (·.oneCell') = true) := Lib.hid (by rw [← hF]; exact sl5_one _ _ _ _ _ _ _ _ _ _ _ _ _ _ _)
      have HFZ : Hid (Z.size = F.size) := Lib.hid (by rw [HZ.out, ← hF]; rfl)
      have HX4 : Hid (X4.heap[g]? = some (.cells Z 36 (0, 0))) := Lib.hid ((show Arr w1 g 36 Z.toList from HA1.out).later HC5.out (show Arr w1 g 36 Z.toList from HA1.out).lt)
      have HY : Hid ((X4.setRow g F).heap[g]? = some (.cells F 36 (0, 0))) := Lib.hid (setRow_heap _ _ _ _ _ _ HX4.out)
      have hbY : Below X4.heap.size X4 X4 := Below.refl _ _
      have HBY : Hid (Below w.heap.size w (X4.setRow g F)) := Lib.hid ((Kit.step HB1.out HC5.out).trans (below_row (Nat.le_of_eq HG.out)))
      have HN : Hid (g < w1.heap.size) := Lib.hid (show Arr w1 g 36 Z.toList from HA1.out).lt
      have HF := Lib.hid hF
      clear hF hbY
      rw [HF.out]
      refine wpList_store_rowTo rfl 36 (.tmp 4) (.tmp 32) rfl rfl g F rfl rfl 36 Z HX4.out HFS.out HFZ.out HFO.out ?_
      go_wp2_with fail
      refine bodyPost_ret (res_ct rfl _ _ g 36 F (0, 0) _ rfl HY.out Tryd.underlying36 rfl HFS.out) rfl ?_
      exact ⟨[.slice (some ⟨g0, 0, none⟩) 32 32, .slice (some ⟨g1, 0, none⟩) 32 32, .slice (some ⟨g2, 0, none⟩) 32 32, .slice (some ⟨g3, 0, none⟩) 32 32, .slice (some ⟨g4, 0, none⟩) 32 32], by rw [HF.out]; rfl, ((((Els.one (HR04.out.row (Da.keyL_length _ _ _) g F (by have := HN.out; have := HR04.out.le; omega))).app (Els.one (HR14.out.row (Da.keyL_length _ _ _) g F (by have := HN.out; have := HR14.out.le; omega)))).app (Els.one (HR24.out.row (Da.keyL_length _ _ _) g F (by have := HN.out; have := HR24.out.le; omega)))).app (Els.one (HR34.out.row (Da.keyL_length _ _ _) g F (by have := HN.out; have := HR34.out.le; omega)))).app (Els.one (HR44.out.row (Da.keyL_length _ _ _) g F (by have := HN.out; have := HR44.out.le; omega))), HBY.out⟩
theorem lall_any (k : List UInt8) (o : Option Addr) (c : Nat) (n : Int) (A : Nat → Addr) (w : World) (hR : RowIs w o (bytesV k) c) (hV : Cds w) (hE : Er.E9 w A) (hl : k.length ≤ 900000) :
    Calls Tryd.prog 15 #[.slice o k.length c, .int .i64 n] w fun e w' => ∃ xs : List Value, e = .returned (.tuple #[.agg xs.toArray, errV A (Da.abad (Da.isMas k.length) (Da.inR n))]) ∧
      Els w' (Da.ares (Da.abad (Da.isMas k.length) (Da.inR n)) (Da.keysL k n)) xs ∧ Below w.heap.size w w' :=
  lall_of _ rfl lk_zero lk_built0 k o c n A w hR hV hE hl
end Go.Proofs.YtemngcifeglpmaaDoor
