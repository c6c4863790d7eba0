/- The code's syndromes: value, Of, Quiet, Poly, Right. Of a word of a size that words haven't. The syndromes of a word; whether it is right. -/
import Derived.Test.YtgifbpjmblemhaaGreatDoorCg
import Derived.Test.YtgifbpjmblemhaaGreatDoorMu
import Derived.Test.YtgifbpjmblemhaaGreatDoorFwm
import Derived.Test.YtgifbpjmblemhaaGreatDoorApw
import Derived.Test.YtgifbpjmblemhaaGreatDoorErr
import Derived.Stop.BytesEq
import Derived.Laws.ResultCell
import Derived.BigRegion
namespace Go.Proofs.YtgifbpjmblemhaaGreatDoor
open Go.RowKit
set_option linter.unusedVariables false
set_option linter.unusedSimpArgs false
def CvAt (z : List UInt8) (x : UInt8) (w : World) (s i : Value) (wr : World) : Prop :=
  ∃ k : Nat, k ≤ z.length ∧ i = .int .i64 k ∧ s = .int .u8 ((Gf.hv x (z.take k)).toNat : Int) ∧ Kit.Dn w wr
set_option maxHeartbeats 1000000 in
theorem cvalue_any (z : List UInt8) (x : UInt8) (T : Nat) (C : Array Value) (o : Option Addr) (c : Nat) (w : World) (hR : RowIs w o (bytesV z) c) (hT : TabAt w T C) :
    Calls Tryz.prog 54 #[.pointer (some ⟨T, 0, none⟩), .slice o z.length c, .int .u8 (x.toNat : Int)] w fun e w' => e = .returned (.int .u8 ((Gf.hv x z).toNat : Int)) ∧ Kit.Dn w w' := by
  have h1 := hR.le
  have h2 := hR.cap
  simp only [bytesV_length] at h1
  unfold maxLen at h2
  have HR := Lib.hid hR
  have HT := Lib.hid hT
  clear hR hT
  go_enter Tryz.func54, Tryz.ntmps54
  go_wp2_with fail
  go_loopw [7, 9, 12] (fun s _ i wr => CvAt z x w s i wr) (fun _ _ i _ => z.length - (intOf i).toNat)
  case atStart => exact ⟨0, Nat.zero_le _, rfl, rfl, Kit.Dn.refl _⟩
  case round =>
    obtain ⟨k, hk, rfl, rfl, hd⟩ := hrel
    have HD := Lib.hid hd
    clear hd
    by_cases hlt : k < z.length
    · obtain ⟨b1, off1, rfl, hb1, hcell⟩ := (HR.out.later HD.out.below).cells (by simp; omega)
      have hc1 : wr.cell? ⟨b1, off1 + k, none⟩ = some (.int .u8 ((co z k).toNat : Int)) := hcell k _ (bytesV_get z k hlt)
      have HH : Hid (Gf.gm (Gf.hv x (z.take k)) x ^^^ co z k = Gf.hv x (z.take (k + 1))) := Lib.hid (by rw [take_step z k hlt, Gf.hv_snoc])
      generalize Gf.hv x (z.take k) = s at *
      generalize co z k = t at *
      have hx := UInt8.toNat_lt x
      have hs := UInt8.toNat_lt s
      have ht := UInt8.toNat_lt t
      have MC : Hid (∀ n, Calls Tryz.prog 68 #[.pointer (some ⟨T, 0, none⟩), .int .u8 (s.toNat : Int), .int .u8 (x.toNat : Int)] (wr.drewN n) fun e w' => e = .returned (.int .u8 ((Gf.gm s x).toNat : Int)) ∧ ∃ m, w' = (wr.drewN n).drewN m) := Lib.hid fun n => tmul_dn s x T C _ ((HT.out.later HD.out.below).later (Kit.dn' _ n))
      generalize hg : Gf.gm s x = u at *
      have hu := UInt8.toNat_lt u
      have AC : Hid (∀ v : World, Calls Tryz.prog 66 #[.int .u8 (u.toNat : Int), .int .u8 (t.toNat : Int)] v fun e w' => e = .returned (.int .u8 ((u ^^^ t).toNat : Int)) ∧ w' = v) := Lib.hid fun v => add_u8 u t v
      generalize hr : u ^^^ t = r at *
      have HG := Lib.hid hg
      have HE := Lib.hid hr
      have MC0 : Hid (Calls Tryz.prog 68 #[.pointer (some ⟨T, 0, none⟩), .int .u8 (s.toNat : Int), .int .u8 (x.toNat : Int)] wr fun e w' => e = .returned (.int .u8 (u.toNat : Int)) ∧ ∃ m, w' = wr.drewN m) := Lib.hid (MC.out 0)
      clear hcell hg hr MC
      go_wp2_with fail
      refine MC0.out.mono ?_; rintro e v1 ⟨rfl, m, rfl⟩
      go_wp2_with fail
      refine (AC.out _).mono ?_; rintro e v2 ⟨rfl, rfl⟩
      go_wp2_with fail
      go_roundw
      case rel => exact ⟨k + 1, by omega, by go_num, by rw [HH.out], HD.out.add m⟩
      case measure => simp [intOf]; omega
    · obtain rfl : k = z.length := by omega
      rw [List.take_length]
      go_wp2
      go_ret
      exact ⟨rfl, HD.out⟩
theorem texp_al (k : Nat) (hk : k < 255) (B : Nat) (C : Array Value) (w : World) (hT : TabAt w B C) :
    Calls Tryz.prog 55 #[.pointer (some ⟨B, 0, none⟩), .int .i64 (k : Int)] w fun e w' => e = .returned (.int .u8 ((Gf.al k).toNat : Int)) ∧ ∃ n, w' = w.drewN n := by
  have h := texp_any (k : Int) B C w hT
  rw [show ((k : Int) % 255).toNat = k by omega, ← Gf.al_nat k] at h
  exact h
theorem csyn_info : (Tryz.prog.info? 81).map (·.size) = some 32 := by kernel_rfl
theorem csyn_under : Tryz.prog.underlying 81 = some (.array 32 5) := by kernel_rfl
theorem czero_syn (w : World) : Sem.run Tryz.prog (zeroValue 81) w = .ok (.agg (bytesV zsyn).toArray) w := by kernel_rfl
theorem csyn_built : Tryz.prog.built 81 [] = some (bytesV zsyn).toArray := by kernel_rfl
theorem csyn_guard : Tryz.prog.eqGuardType Tryz.prog.depth 81 = false := by kernel_rfl
theorem csyn_size {ys : List UInt8} (h : ys.length = 32) : (Tryz.prog.info? 81).map (·.size) = some (bytesV ys).toArray.size := by
  rw [csyn_info]; simp [h]
theorem csyn_eql (xs ys : List UInt8) (hx : xs.length = 32) (hy : ys.length = 32) (w : World) : (binOp .eql 81 (.agg (bytesV xs).toArray) (.agg (bytesV ys).toArray)).run Tryz.prog w = .ok (.bool (xs == ys)) w :=
  run_eql_bytes w 81 5 32 csyn_under Tryz.underlying5 (fun w => by
    obtain ⟨i0, hi, _, hz1, _⟩ := info_parts info_u8
    simp [sizeOf, typeInfo, hi, hz1]) xs ys hx hy
theorem build_syn {P : Program} {ops : Array Oper} {rest : List Oper} {o : Oper} {a : Act} {w : World} {Q : Exit → Act → World → Prop} (hg : o.guard = none) (T : TypeId) (ho : o.op = .build T #[]) (Z : Array Value) (hb : P.built T [] = some Z)
    (h : wpList P ops Q rest (a.put o.dst (.agg Z)) w) : wpList P ops Q (o :: rest) a w := by
  have e : (((#[] : Array (Nat × Operand)).map fun (i, x) => (i, a.eval x)).toList) = [] := by simp
  refine wpList_build hg T #[] ho ?_ ?_
  · rw [e, hb]; rfl
  · rw [e, hb]; exact h
set_option maxRecDepth 100000 in
set_option maxHeartbeats 2000000 in
theorem spoly_any (s : List UInt8) (hs : s.length = 32) (w : World) : Calls Tryz.prog 62 #[.agg (bytesV s).toArray] w (Rows (tr s) w) := by
  have HG := Lib.hid (World.alloc_heap_new w (.cells (bytesV s).toArray 81))
  have HB := Lib.hid ((Below.refl w.heap.size w).alloc (Nat.le_refl _) (.cells (bytesV s).toArray 81))
  have ht := trim_any s (some ⟨w.heap.size, 0, none⟩) s.length _ (row_typed HG.out (by rw [hs]; unfold maxLen; omega)) (by omega)
  rw [hs] at ht
  have HT := Lib.hid ht
  have h1 := one_cell s
  obtain ⟨C, hC⟩ : ∃ C, (bytesV s).toArray = C := ⟨_, rfl⟩
  rw [hC] at HG HB HT h1 ⊢
  have hu := csyn_under
  clear ht
  go_enter Tryz.func62, Tryz.ntmps62
  go_wp2_with fail
  refine HT.out.mono ?_; rintro e w2 ⟨x, rfl, hr, hb⟩
  have HR := Lib.hid hr
  have HB2 := Lib.hid (Kit.step HB.out hb)
  clear hr hb HT
  go_wp2_with fail
  go_ret
  exact ⟨x, rfl, HR.out, HB2.out⟩
end Go.Proofs.YtgifbpjmblemhaaGreatDoor
namespace Go.Proofs.YtgifbpjmblemhaaGreatDoor
open Go.RowKit
set_option linter.unusedVariables false
set_option linter.unusedSimpArgs false
theorem results_cell_row2 {P : Program} {fn : Func} {p u : Tmp} {ty : TypeId} (h : fn.results = #[.cell p ty, .tmp u]) (tmps : Array Value) (w : World) (g : Nat) (t : TypeId) (cs : Array Value) (fr : Nat × Nat) (d : TypeDesc)
    (hp : tmps.getD p undef = .pointer (some ⟨g, 0, none⟩)) (hg : w.heap[g]? = some (.cells cs t fr))
    (hu : P.underlying ty = some d) (hd : (match d with | .struct _ | .array _ _ => true | _ => false) = true) (hi : (P.info? ty).map (·.size) = some cs.size) :
    (results fn tmps).run P w = .ok (.tuple #[.agg cs, tmps.getD u undef]) w := by
  rw [results_cell_tmp h, hp]
  simp [asAddr, run_loadVar_row w g t ty cs fr d hg hu hd hi]
theorem exec_build {P : Program} {o : Oper} {a : Act} {T : TypeId} {Z : Array Value} (ho : o.op = .build T #[]) (hb : P.built T [] = some Z) (v : World) : (execOp a.eval o).run P v = .ok (.value (.agg Z)) v := by
  have e : (((#[] : Array (Nat × Operand)).map fun (i, x) => (i, a.eval x))) = #[] := by simp
  have h := run_build (P := P) v T #[] Z hb
  simp [execOp, ho, h, Result.andThen]
set_option maxRecDepth 100000 in
set_option maxHeartbeats 2000000 in
theorem of_size_of (Z : Array Value) (hzs : ∀ w, Sem.run Tryz.prog (zeroValue 81) w = .ok (.agg Z) w) (hb : Tryz.prog.built 81 [] = some Z) (hZ1 : Z.all (·.oneCell') = true) (hZ2 : (Tryz.prog.info? 81).map (·.size) = some Z.size)
    (m c : Nat) (o : Option Addr) (w : World) (A : Nat → Addr) (hE : Er.Six w A) (h : ¬ (33 ≤ m ∧ m ≤ 255)) (hm : m ≤ 9223372036854775807) :
    Calls Tryz.prog 37 #[.slice o m c] w fun e w' => e = .returned (.tuple #[.agg Z, .iface 152 (.pointer (some (A 7)))]) ∧ Below w.heap.size w w' := by
  have hg1 := World.alloc_heap_new w (.cells Z 81)
  have hb1 : Below w.heap.size w (w.alloc (.cells Z 81)) := (Below.refl _ _).alloc (Nat.le_refl _) _
  have hc7 := (hE.later hb1).c7
  have C : Hid (∀ w, Calls Tryz.prog 52 #[.int .i64 (m : Int)] w fun e w' => e = .returned (.bool false) ∧ w' = w) := Lib.hid (fits_false m (by omega))
  have hE1 : Hid (8 < w.heap.size ∧ True) := Lib.hid ⟨by
    have h := hE.c7
    unfold World.cell? at h
    cases hh : w.heap[8]? with
    | none => simp [hh] at h
    | some o => exact (Array.getElem?_eq_some_iff.1 hh).1, trivial⟩
  have HC7 := Lib.hid hc7
  have HB1 := Lib.hid hb1
  have HG1 := Lib.hid hg1
  have HZ2 := Lib.hid hZ2
  have HBU := Lib.hid hb
  clear hE h hg1 hb1 hb hZ2 hc7
  go_enter Tryz.func37, Tryz.ntmps37
  go_wp2_with fail
  refine (C.out _).mono ?_; rintro e w1 ⟨rfl, hw1⟩
  rw [← hw1] at HC7 HB1 HG1
  clear hw1 hzs
  have hc7 : w1.drew.cell? ⟨8, 0, none⟩ = _ := HC7.out
  obtain ⟨g0, hg0⟩ : ∃ g0, w.heap.size = g0 := ⟨_, rfl⟩
  rw [hg0] at HG1
  have HG0 := Lib.hid hg0
  have hne : g0 ≠ 8 := fun e => by
    have h1 := hE1.out.1
    omega
  have hc8 : (w1.drew.setRow g0 Z).cell? ⟨8, 0, none⟩ = some (.iface 152 (.pointer (some (A 7)))) := by
    unfold World.cell?
    rw [setRow_other _ _ _ _ (fun e => hne e.symm)]
    exact hc7
  rw [hg0]
  clear hg0
  go_wp2_with fail
  refine wp_region_any (by kernel_rfl) ?_
  change wpAny _ _ _ _ _ _ _ (World.drew _)
  refine wpAny_take (i := 0) (v := .agg Z) rfl (by kernel_rfl) (by kernel_rfl) (by kernel_rfl) (fun _ _ _ h => h) (Or.inl ⟨by rfl, fun v => ?hy⟩) ?rest
  case hy => exact exec_build rfl HBU.out v
  case rest =>
    refine wpAny_ready (rs := [1, 2]) (by kernel_rfl) (by simp) ?_
    refine AllReady.cons rfl (fun K hK => ?_) (AllReady.cons rfl (fun K hK => ?_) AllReady.nil)
    · go_simp
      refine hK _ _ ?_
      clear hK K
      refine wpAny_ready (rs := [2]) (by kernel_rfl) (by simp) ?_
      refine AllReady.cons rfl (fun K hK => ?_) AllReady.nil
      rw [if_pos (by rfl)]
      refine wp_store_row 81 (.tmp 2) (.tmp 11) rfl g0 Z rfl rfl 81 Z HG1.out HZ2.out rfl hZ1 (hK _ _ ?_)
      clear hK K
      refine wpAny_ready (rs := [3]) (by kernel_rfl) (by simp) ?_
      refine AllReady.cons rfl (fun K hK => ?_) AllReady.nil
      go_simp
      refine hK _ _ ?_
      clear hK K
      refine wpAny_done (by kernel_rfl) ?_ _
      go_wp2_with fail
      have hg2 : (w1.drew.setRow g0 Z).heap[g0]? = some (.cells Z 81 (0, 0)) := setRow_heap _ _ _ _ _ _ HG1.out
      refine bodyPost_ret (results_cell_row2 rfl _ _ g0 81 Z (0, 0) _ rfl hg2 csyn_under rfl HZ2.out) rfl ?_
      have hd : Below w.heap.size w1 w1.drew := ⟨rfl, rfl, rfl, Nat.le_refl _, fun _ _ => rfl⟩
      have hx : Below w.heap.size w (w1.drew.setRow g0 Z) := (HB1.out.trans hd).trans (below_setRow (by rw [HG0.out]; exact Nat.le_refl _))
      first | exact ⟨rfl, hx⟩ | (rw [HG0.out] at hx; exact ⟨rfl, hx⟩)
    · rw [if_pos (by rfl)]
      refine wp_store_row 81 (.tmp 2) (.tmp 11) rfl g0 Z rfl rfl 81 Z HG1.out HZ2.out rfl hZ1 (hK _ _ ?_)
      clear hK K
      refine wpAny_ready (rs := [1]) (by kernel_rfl) (by simp) ?_
      refine AllReady.cons rfl (fun K hK => ?_) AllReady.nil
      go_simp
      refine hK _ _ ?_
      clear hK K
      refine wpAny_ready (rs := [3]) (by kernel_rfl) (by simp) ?_
      refine AllReady.cons rfl (fun K hK => ?_) AllReady.nil
      go_simp
      refine hK _ _ ?_
      clear hK K
      refine wpAny_done (by kernel_rfl) ?_ _
      go_wp2_with fail
      have hg2 : (w1.drew.setRow g0 Z).heap[g0]? = some (.cells Z 81 (0, 0)) := setRow_heap _ _ _ _ _ _ HG1.out
      refine bodyPost_ret (results_cell_row2 rfl _ _ g0 81 Z (0, 0) _ rfl hg2 csyn_under rfl HZ2.out) rfl ?_
      have hd : Below w.heap.size w1 w1.drew := ⟨rfl, rfl, rfl, Nat.le_refl _, fun _ _ => rfl⟩
      have hx : Below w.heap.size w (w1.drew.setRow g0 Z) := (HB1.out.trans hd).trans (below_setRow (by rw [HG0.out]; exact Nat.le_refl _))
      first | exact ⟨rfl, hx⟩ | (rw [HG0.out] at hx; exact ⟨rfl, hx⟩)
theorem of_size (m c : Nat) (o : Option Addr) (w : World) (A : Nat → Addr) (hE : Er.Six w A) (h : ¬ (33 ≤ m ∧ m ≤ 255)) (hm : m ≤ 9223372036854775807) :
    Calls Tryz.prog 37 #[.slice o m c] w fun e w' => e = .returned (.tuple #[.agg (bytesV zsyn).toArray, .iface 152 (.pointer (some (A 7)))]) ∧ Below w.heap.size w w' :=
  of_size_of _ czero_syn csyn_built (one_cell zsyn) (csyn_size (by simp [zsyn])) m c o w A hE h hm
end Go.Proofs.YtgifbpjmblemhaaGreatDoor
namespace Go.Proofs.YtgifbpjmblemhaaGreatDoor
open Go.RowKit
set_option linter.unusedVariables false
set_option linter.unusedSimpArgs false
def OhAt (z : List UInt8) (w : World) (g0 T g : Nat) (C : Array Value) (i : Value) (wr : World) : Prop :=
  ∃ k : Nat, k ≤ 32 ∧ i = .int .i64 k ∧ (∃ ys : List UInt8, ys.length = 32 ∧ (∀ j, j < k → co ys j = Gf.hv (Gf.al j) z) ∧ wr.heap[g]? = some (.cells (bytesV ys).toArray 81 (0, 0))) ∧
    wr.heap[g0]? = some (.cells (bytesV zsyn).toArray 81 (0, 0)) ∧ TabAt wr T C ∧ Below w.heap.size w wr
set_option maxRecDepth 100000 in
set_option maxHeartbeats 2000000 in
theorem of_any_of (Z : Array Value) (hZ : Z = (bytesV zsyn).toArray) (hzs : ∀ w, Sem.run Tryz.prog (zeroValue 81) w = .ok (.agg Z) w) (z : List UInt8) (o : Option Addr) (c : Nat) (w : World) (hP : RowIs w o (bytesV z) c) (h33 : 33 ≤ z.length ∧ z.length ≤ 255) :
    Calls Tryz.prog 37 #[.slice o z.length c] w fun e w' => e = .returned (.tuple #[.agg (bytesV (synL z)).toArray, .nilIface]) ∧ Below w.heap.size w w' := by
  have h1 := hP.le
  have h2 := hP.cap
  simp only [bytesV_length] at h1
  unfold maxLen at h2
  have HP := Lib.hid hP
  have HZ := Lib.hid hZ
  have hb1 : Below w.heap.size w (w.alloc (.cells Z 81)) := (Below.refl _ _).alloc (Nat.le_refl _) _
  have hg1 := World.alloc_heap_new w (.cells Z 81)
  have F : Hid (∀ w, Calls Tryz.prog 52 #[.int .i64 (z.length : Int)] w fun e w' => e = .returned (.bool true) ∧ w' = w) := Lib.hid (fits_true z.length (by omega))
  have HG1 := Lib.hid hg1
  have HB1 := Lib.hid hb1
  have HSZ1 : Hid ((w.alloc (.cells Z 81)).heap.size = w.heap.size + 1) := Lib.hid (World.size_alloc _ _)
  clear hP hZ hg1 hb1
  go_enter Tryz.func37, Tryz.ntmps37
  go_wp2_with fail
  refine (F.out _).mono ?_; rintro e w1 ⟨rfl, hw1⟩
  rw [← hw1] at HG1 HB1 HSZ1
  clear hw1 F
  go_wp2_with fail
  refine (make_any _).mono ?_; rintro e w2 ⟨n, C, hC, rfl, hw2⟩
  have hT2 : TabAt w2 w1.heap.size C := by rw [hw2]; exact TabAt.made hC
  have hb2 : Below w1.heap.size w1 w2 := by rw [hw2]; exact made_below
  have hs2 : w2.heap.size = w1.heap.size + 1 := by
    rw [hw2]
    have : ∀ n, ((w1.alloc (.cells C 127)).drewN n).heap.size = w1.heap.size + 1 := fun n => by
      rw [show ((w1.alloc (.cells C 127)).drewN n).heap = (w1.alloc (.cells C 127)).heap from rfl]
      exact World.size_alloc _ _
    exact this n
  obtain ⟨g0, hg0⟩ : ∃ g0, w.heap.size = g0 := ⟨_, rfl⟩
  have e1 : w1.heap.size = g0 + 1 := by rw [HSZ1.out, hg0]
  have e2 : w2.heap.size = g0 + 2 := by omega
  obtain ⟨w3, hw3⟩ : ∃ w3, w2.alloc (.cells Z 81) = w3 := ⟨_, rfl⟩
  have hb3 : Below w2.heap.size w2 w3 := by rw [← hw3]; exact (Below.refl _ _).alloc (Nat.le_refl _) _
  have hgZ : w3.heap[g0 + 2]? = some (.cells (bytesV zsyn).toArray 81 (0, 0)) := by
    rw [← hw3, ← e2, ← HZ.out]; exact World.alloc_heap_new _ _
  have hgR : w3.heap[g0]? = some (.cells (bytesV zsyn).toArray 81 (0, 0)) := by
    rw [hb3.block g0 (by omega), hb2.block g0 (by omega), ← hg0, HG1.out, HZ.out]
  have hT3 : TabAt w3 (g0 + 1) C := by rw [← e1]; exact hT2.later hb3
  have hB3 : Below w.heap.size w w3 := Kit.step (Kit.step HB1.out hb2) hb3
  have HGZ := Lib.hid hgZ
  have HGR := Lib.hid hgR
  have HT3 := Lib.hid hT3
  have HB3 := Lib.hid hB3
  have HW3 := Lib.hid hw3
  have HGE := Lib.hid hg0
  have HE2 := Lib.hid e2
  rw [hg0, e1]
  clear hw2 hT2 hb2 hs2 hb3 hgZ hgR hT3 hB3 hw3 hg0 HG1 HB1 HSZ1 hC e1 e2
  go_wp2_with fail
  rw [HW3.out, HE2.out]
  go_loopw [6, 14] (fun _ i wr => OhAt z w g0 (g0 + 1) (g0 + 2) C i wr) (fun _ i _ => 32 - (intOf i).toNat)
  case atStart => exact ⟨0, Nat.zero_le _, rfl, ⟨zsyn, by simp [zsyn], fun j h => absurd h (by omega), HGZ.out⟩, HGR.out, HT3.out, HB3.out⟩
  case round =>
    rename World => W1
    obtain ⟨k, hk, rfl, ⟨ys, hys, hco, hg⟩, hg0, hT, hb⟩ := hrel
    by_cases hlt : k < 32
    · have hd1 : decide ((k : Int) < 32) = true := by simpa using (by omega : (k : Int) < 32)
      have EX := Lib.hid (texp_al k (by omega) (g0 + 1) C W1 hT)
      have VC : Hid (∀ n, Calls Tryz.prog 54 #[.pointer (some ⟨g0 + 1, 0, none⟩), .slice o z.length c, .int .u8 ((Gf.al k).toNat : Int)] (W1.drewN n) fun e w' => e = .returned (.int .u8 ((Gf.hv (Gf.al k) z).toNat : Int)) ∧ Kit.Dn W1 w') := Lib.hid fun n => by
        refine (cvalue_any z (Gf.al k) (g0 + 1) C o c (W1.drewN n) ((HP.out.later hb).later (Kit.dn' _ n)) (hT.later (Kit.dn' _ n))).mono ?_
        rintro e w' ⟨rfl, m, rfl⟩
        exact ⟨rfl, n + m, by rw [World.drewN_drewN]⟩
      obtain ⟨x, hx⟩ : ∃ x, Gf.al k = x := ⟨_, rfl⟩
      rw [hx] at EX VC
      obtain ⟨s, hs⟩ : ∃ s, Gf.hv x z = s := ⟨_, rfl⟩
      rw [hs] at VC
      have hxl := UInt8.toNat_lt x
      have hsl := UInt8.toNat_lt s
      have HCO := Lib.hid hco
      have HG := Lib.hid hg
      have HG0 := Lib.hid hg0
      have HT := Lib.hid hT
      have HB := Lib.hid hb
      have HS : Hid (Gf.hv (Gf.al k) z = s) := Lib.hid (by rw [hx, hs])
      clear hco hg hg0 hT hb hx hs
      have hk0 : (0 : Int) ≤ (k : Int) := by omega
      have hk1 : (k : Int) < 32 := by omega
      go_wp2_with fail
      refine EX.out.mono ?_; rintro e v1 ⟨rfl, n1, rfl⟩
      go_wp2_with fail
      refine (VC.out n1).mono ?_; rintro e v2 ⟨rfl, hd⟩
      have hgv : v2.heap[g0 + 2]? = _ := (dn_block hd (g0 + 2)).trans HG.out
      have hg0v : v2.heap[g0]? = _ := (dn_block hd g0).trans HG0.out
      have hTv : TabAt v2 (g0 + 1) C := HT.out.later hd.below
      have hBv : Below w.heap.size w v2 := Kit.step HB.out hd.below
      have hce : v2.cell? ⟨g0 + 2, k, none⟩ = some (.int .u8 ((co ys k).toNat : Int)) := by
        unfold World.cell?
        rw [hgv]
        show (bytesV ys).toArray[k]? = _
        rw [List.getElem?_toArray]
        exact bytesV_get ys k (by omega)
      have hfr : v2.frozen? ⟨g0 + 2, k, none⟩ = false := by
        unfold World.frozen?
        rw [hgv]
        rfl
      obtain ⟨w4, hw4⟩ : ∃ w4, v2.setCell ⟨g0 + 2, k, none⟩ (.int .u8 (s.toNat : Int)) = w4 := ⟨_, rfl⟩
      have hset := setCell_eq_setRow v2 (g0 + 2) k _ _ _ (.int .u8 (s.toNat : Int)) hgv
      rw [hw4, cells_set] at hset
      have hg4 : w4.heap[g0 + 2]? = some (.cells (bytesV (ys.set k s)).toArray 81 (0, 0)) := by rw [hset]; exact setRow_heap _ _ _ _ _ _ hgv
      have hg5 : w4.heap[g0]? = some (.cells (bytesV zsyn).toArray 81 (0, 0)) := by rw [hset, setRow_other _ _ _ _ (by omega)]; exact hg0v
      have hT5 : TabAt w4 (g0 + 1) C := ⟨by rw [hset, setRow_other _ _ _ _ (by omega)]; exact hTv.block, hTv.tab⟩
      have hb4 : Below w.heap.size w w4 := by rw [hset]; exact hBv.trans (below_setRow (by have := HGE.out; omega))
      have HG4 := Lib.hid hg4
      have HG5 := Lib.hid hg5
      have HT5 := Lib.hid hT5
      have HB4 := Lib.hid hb4
      have HW4 := Lib.hid hw4
      clear hw4 hset hg4 hg5 hT5 hb4 hgv hg0v hTv hBv hd EX VC
      go_wp2_with fail
      rw [HW4.out]
      go_roundw
      case rel =>
        refine ⟨k + 1, by omega, by go_num, ⟨ys.set k s, by simp [hys], fun j hj => ?_, HG4.out⟩, HG5.out, HT5.out, HB4.out⟩
        rw [co_set]
        by_cases e : k = j
        · subst e
          rw [if_pos ⟨rfl, by omega⟩, HS.out]
        · rw [if_neg (fun h => e h.1)]
          exact HCO.out j (by omega)
      case measure => simp [intOf]; omega
    · obtain rfl : k = 32 := by omega
      have hye : ys = synL z := list_ext (by simp [hys]) fun j hj => by
        rw [hco j (by omega)]
        exact (co_tab (fun j => Gf.hv (Gf.al j) z) 32 j (by omega)).symm
      subst hye
      have hsz := csyn_size (ys := synL z) hys
      have hst := one_cell (synL z)
      have HSZ := Lib.hid hsz
      have HST := Lib.hid hst
      have HOL : Hid ((bytesV zsyn).toArray.size = (bytesV (synL z)).toArray.size) := Lib.hid (by simp [zsyn])
      obtain ⟨S, hS⟩ : ∃ S, (bytesV (synL z)).toArray = S := ⟨_, rfl⟩
      rw [hS] at hg HSZ HST HOL
      have HG := Lib.hid hg
      have HG0 := Lib.hid hg0
      have HCE := Lib.hid hS
      have HGW : Hid ((W1.setRow g0 S).heap[g0]? = some (.cells S 81 (0, 0))) := Lib.hid (setRow_heap _ _ _ _ _ _ hg0)
      have HBW : Hid (Below w.heap.size w (W1.setRow g0 S)) := Lib.hid (hb.trans (below_setRow (by have := HGE.out; omega)))
      clear hsz hst hS hg hg0 hb hT hco
      go_wp2_with (first | refine wpList_load_row rfl 81 (.tmp 5) rfl (g0 + 2) rfl 81 S (0, 0) _ HG.out csyn_under rfl HSZ.out ?_ | refine wpList_store_row rfl 81 (.tmp 2) (.tmp 26) rfl g0 S rfl rfl 81 (bytesV zsyn).toArray HG0.out HSZ.out HOL.out HST.out ?_)
      refine bodyPost_ret (results_cell_row2 rfl _ _ g0 81 S (0, 0) _ rfl HGW.out csyn_under rfl HSZ.out) rfl ?_
      exact ⟨by rw [HCE.out]; rfl, HBW.out⟩
theorem of_any (z : List UInt8) (o : Option Addr) (c : Nat) (w : World) (hP : RowIs w o (bytesV z) c) (h33 : 33 ≤ z.length ∧ z.length ≤ 255) :
    Calls Tryz.prog 37 #[.slice o z.length c] w fun e w' => e = .returned (.tuple #[.agg (bytesV (synL z)).toArray, .nilIface]) ∧ Below w.heap.size w w' :=
  of_any_of _ rfl czero_syn z o c w hP h33
end Go.Proofs.YtgifbpjmblemhaaGreatDoor
