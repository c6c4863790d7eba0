/- Ins -/
import Derived.Test.YtffheegeaghfjaaGreatDoorGn
import Derived.Lib.Hide
import Derived.BigRegion
import Derived.Deep.QuietTactic
import Derived.BigQuiet
import Derived.Test.YtffheegeaghfjaaGreatDoorErr
import Derived.Stop.BytesEq
import Derived.Laws.ResultCell
set_option linter.unusedVariables false
set_option linter.unusedSimpArgs false
set_option maxRecDepth 100000
set_option maxHeartbeats 8000000
namespace Go.Proofs.YtffheegeaghfjaaGreatDoor
open Go.RowKit
def alL (n : Nat) : List UInt8 := tab Gf.al n
theorem co_two (p : List UInt8) (r : UInt8) (m : Nat) : co (mulL p [r, 1]) m = Gf.gm (co p m) r ^^^ (if m = 0 then 0 else co p (m - 1)) := by
 rw [co_mulL']
 cases m with
 | zero =>
  rw [if_pos rfl]
  show 0 ^^^ Gf.gm (co p 0) r = _
  rw [UInt8.zero_xor, UInt8.xor_zero]
 | succ m =>
  rw [if_neg (by omega), Nat.add_sub_cancel]
  show (Gf.sm _ m ^^^ Gf.gm (co p m) (co [r, 1] (m + 1 - m))) ^^^ Gf.gm (co p (m + 1)) (co [r, 1] (m + 1 - (m + 1))) = _
  rw [show m + 1 - m = 1 by omega, Nat.sub_self, show co [r, 1] 1 = 1 from rfl, show co [r, 1] 0 = r from rfl, Gf.gm_one]
  rw [show Gf.sm (fun i => Gf.gm (co p i) (co [r, 1] (m + 1 - i))) m = 0 from Gf.sm_zero fun i hi => by
   rw [show co [r, 1] (m + 1 - i) = 0 from co_ge (by show 2 <= _; omega), Gf.gm_zero]]
  rw [UInt8.zero_xor, UInt8.xor_comm]
theorem prod_gen (z : List UInt8) (n k : Nat) (hz : ∀ j, j < n -> co z j = Gf.al j) (h : k <= n) (m : Nat) : co (prodL (fun r => [r, 1]) z k) m = co (genL k) m := by
 induction k generalizing m with
 | zero => rfl
 | succ k ih =>
  rw [prodL, genL, co_two, co_nx, hz k (by omega), ih (by omega), ih (by omega)]
theorem tr_gen (k : Nat) : tr (genL k) = genL k := tr_of_top fun _ => by
 rw [genL_length, Nat.add_sub_cancel, gen_top]
 decide
theorem tr_prod : tr (prodL (fun r => [r, 1]) (alL 32) 32) = genL 32 := by
 rw [<- tr_gen 32]
 exact tr_congr fun m => prod_gen (alL 32) 32 32 (fun j hj => co_tab _ _ _ hj) (Nat.le_refl _) m
def CgAt (w : World) (g : Nat) (i : Value) (wr : World) : Prop :=
 ∃ k : Nat, k <= 32 /\ i = .int .i64 k /\ (∃ ys : List UInt8, ys.length = 32 /\ (∀ j, j < k -> co ys j = Gf.al j) /\ wr.heap[g]? = some (.cells (bytesV ys).toArray 31 (0, 0))) /\ Below w.heap.size w wr
theorem row_typed {X : World} {A : Nat} {z : List UInt8} {T : TypeId} (h : X.heap[A]? = some (.cells (bytesV z).toArray T (0, 0))) (hm : z.length <= maxLen) : RowIs X (some ⟨A, 0, none⟩) (bytesV z) z.length :=
 ⟨by simp, hm, fun h => (by cases h), fun h0 => ⟨A, 0, rfl, (aE.1 h).1, fun i v hv => by
  unfold World.cell?
  rw [h]
  show (bytesV z).toArray[0 + i]? = _
  rw [Nat.zero_add, List.getElem?_toArray]
  exact hv⟩⟩
theorem cgen_of (Z : Array Value) (hZ : Z = (bytesV zsyn).toArray) (hzs : ∀ w, Sem.run Tryz.prog (zeroValue 31) w = .ok (.agg Z) w) (w : World) :
    Calls Tryz.prog 161 #[] w (Rows (genL 32) w) := by
 have hg1 : (w.alloc (.cells Z 31)).heap[w.heap.size]? = some (.cells (bytesV zsyn).toArray 31 (0, 0)) := by
  rw [hZ]; exact World.alloc_heap_new w _
 have hb1 : Below w.heap.size w (w.alloc (.cells Z 31)) := (Below.refl _ _).alloc (Nat.le_refl _) _
 have HG1 := Lh hg1
 have HB1 := Lh hb1
 have HGE : Hid (w.heap.size = w.heap.size) := Lh rfl
 clear hg1 hb1 hZ
 go_enter Tryz.func161, Tryz.ntmps161
 go_wp2_with fail
 go_loopw [2, 3, 5] (fun _ i _ wr => CgAt w w.heap.size i wr) (fun _ i _ _ => 32 - (intOf i).toNat)
 case atStart => exact ⟨0, Nat.zero_le _, rfl, ⟨zsyn, by simp [zsyn], fun j h => absurd h (by omega), HG1.out⟩, HB1.out⟩
 case round =>
  rename World => W1
  obtain ⟨k, hk, rfl, ⟨ys, hys, hco, hg⟩, hb⟩ := hrel
  have HCO := Lh hco
  have HG := Lh hg
  have HB := Lh hb
  clear hco hg hb
  by_cases hlt : k < 32
  ·have hd1 : decide ((k : Int) < 32) = true := by simpa using (by omega : (k : Int) < 32)
   have hal := Gf.al_nat k
   obtain ⟨s, hs⟩ : ∃ s, Gf.al k = s := ⟨_, rfl⟩
   have hsl := UInt8.toNat_lt s
   have E : Hid (∀ w, Calls Tryz.prog 174 #[.int .i64 (k : Int)] w fun e w' => e = .returned (.int .u8 (s.toNat : Int)) /\ w = w') := Lh fun w => by
    have h := exp_any (k : Int) w
    rw [show ((k : Int) % 255).toNat = k by omega, <- hal, hs] at h
    exact h
   have hce : W1.cell? ⟨w.heap.size, k, none⟩ = some (.int .u8 ((co ys k).toNat : Int)) := by
    unfold World.cell?
    rw [HG.out]
    show (bytesV ys).toArray[k]? = _
    rw [List.getElem?_toArray]
    exact bytesV_get ys k (by omega)
   have hfr : W1.frozen? ⟨w.heap.size, k, none⟩ = false := by
    unfold World.frozen?
    rw [HG.out]
    rfl
   obtain ⟨w4, hw4⟩ : ∃ w4, W1.setCell ⟨w.heap.size, k, none⟩ (.int .u8 (s.toNat : Int)) = w4 := ⟨_, rfl⟩
   have hset := setCell_eq_setRow W1 w.heap.size k _ _ _ (.int .u8 (s.toNat : Int)) HG.out
   rw [hw4, cells_set] at hset
   have hg4 : w4.heap[w.heap.size]? = some (.cells (bytesV (ys.set k s)).toArray 31 (0, 0)) := by rw [hset]; exact setRow_heap _ _ _ _ _ _ HG.out
   have hb4 : Below w.heap.size w w4 := by rw [hset]; exact HB.out.trans (below_setRow (Nat.le_refl _))
   have HG4 := Lh hg4
   have HB4 := Lh hb4
   have HW4 := Lh hw4
   have HS := Lh hs
   clear hs hw4 hset hg4 hb4 hal
   have hk0 : (0 : Int) <= (k : Int) := by omega
   have hk1 : (k : Int) < 32 := by omega
   go_wp2_with fail
   refine (E.out _).mono ?_; rintro e w' ⟨rfl, rfl⟩
   go_wp2_with fail
   rw [HW4.out]
   go_roundw
   case rel =>
    refine ⟨k + 1, by omega, by go_num, ⟨ys.set k s, by simp [hys], fun j hj => ?_, HG4.out⟩, HB4.out⟩
    rw [co_set]
    by_cases e : k = j
    ·subst e
     rw [if_pos ⟨rfl, by omega⟩, HS.out]
    ·rw [if_neg (fun h => e h.1)]
     exact HCO.out j (by omega)
   case measure => simp [intOf]; omega
  ·obtain rfl : k = 32 := by omega
   have hye : ys = alL 32 := list_ext (by simp [hys, alL]) fun j hj => by
    rw [HCO.out j (by omega)]
    exact (co_tab Gf.al 32 j (by omega)).symm
   subst hye
   clear HCO
   have hro : RowIs W1 (some ⟨w.heap.size, 0, none⟩) (bytesV (alL 32)) (alL 32).length := row_typed HG.out (by rw [hys]; unfold maxLen; omega)
   have hcl := roots_any (alL 32) _ _ W1 (by rw [hys]; omega) hro
   rw [hys, tr_prod] at hcl
   have HCL := Lh hcl
   clear hro hcl
   go_wp2_with fail
   refine HCL.out.mono ?_; rintro e w1 ⟨g, cap, rfl, hg, hb, hr⟩
   have HB5 := Lh (HB.out.trans (hb.mono HB.out.size))
   have HR := Lh hr
   clear hb hr HCL
   go_wp2_with fail
   go_ret
   exact ⟨_, rfl, ⟨_, _, rfl, HR.out⟩, HB5.out⟩
theorem cgen_any (w : World) : Calls Tryz.prog 161 #[] w (Rows (genL 32) w) := cgen_of _ rfl zero_syn w
theorem info_int : (Tryz.prog.info? 3).map (fun i => (i.zero, i.size, i.bytes)) = some (some (.int .i64 0), 1, 8) := by kernel_rfl
def IntsV (z : List Int) (x : Value) (v : World) : Prop := ∃ o c, x = .slice o z.length c /\ RowIs v o (intsV z) c
theorem IntsV.later {z : List Int} {x : Value} {v v' : World} (h : IntsV z x v) (hb : Below v.heap.size v v') : IntsV z x v' := by
 obtain ⟨o, c, e, h⟩ := h
 exact ⟨o, c, e, h.later hb⟩
theorem owns_ints {W : World} {n : Nat} {v : Value} {z : List Int} {m : Nat} (h : W.ownsRow n 3 1 v m (intsV z)) (hm : m = z.length) : IntsV z v W := by
 subst hm
 have h00 := h
 obtain ⟨hl, hx⟩ := h
 rcases hx with ⟨rfl, h0⟩ | ⟨g, cap, cur, rfl, hg, hh, h1, h2, hcur, htake⟩
 ·refine ⟨none, 0, by rw [h0], ⟨by simp [h0], Nat.zero_le _, fun _ => rfl, fun h => ?_⟩⟩
  simp [h0] at h
 ·exact ⟨_, cap, rfl, ⟨by simpa using h1, h2, (fun e => by cases e), fun _ => ⟨g, 0, rfl, (aE.1 hh).1, fun i u hu => by
   have hi := (List.getElem?_eq_some_iff.1 hu).1
   rw [Nat.zero_add, World.ownsRow.cellAt h00 i (by simp at hi; omega)]
   exact hu⟩⟩⟩
theorem own_belowI {w0 w w' : World} {v : Value} {xs : List Value} {m : Nat} (hb : Below w0.heap.size w0 w) (h : w.ownsRow w0.heap.size 3 1 v m xs) (hg : w.grownBy w' v.ownBlock) : Below w0.heap.size w0 w' :=
 hb.grown hg hb.size (fun k e => (World.ownsRow.lt h k e).1)
theorem append_int {ops : Array Oper} {rest : List Oper} {o : Oper} {a : Act} {Q : Exit -> Act -> World -> Prop} {w : World} (hgd : o.guard = none) (s x : Operand)
    (ho : o.op = .call { callee := .builtin .append, args := #[s, x], argTypes := #[143, 143] })
    (base : Nat) (v : Value) (n : Nat) (z : List Int) (hs : a.eval s = v) (hown : w.ownsRow base 3 1 v n (intsV z))
    (g : Nat) (y : Int) (hx : a.eval x = .slice (some ⟨g, 0, none⟩) 1 1) (hg : w.cell? ⟨g, 0, none⟩ = some (.int .i64 y)) (hl : n <= 10000000) (hbase : base <= w.heap.size)
    (h : ∀ v' w', w'.ownsRow base 3 1 v' (n + 1) (intsV (z ++ [y])) -> w.grownBy w' v.ownBlock -> wpList Tryz.prog ops Q rest (a.put o.dst v') w') : wpList Tryz.prog ops Q (o :: rest) a w := by
 obtain ⟨i0, hi, hz0, hz1, hz2⟩ := info_parts info_int
 have e : intsV (z ++ [y]) = intsV z ++ [.int .i64 y] := by simp [intsV]
 rw [e] at h
 refine wpList_append_own_wide w hgd s x 143 ho base 3 i0 (.int .i64 0) 1 8 Tryz.underlying143 hi hz0 hz1 hz2 rfl (by decide) v n (intsV z) hs hown ⟨g, 0, none⟩ 1 1 [.int .i64 y] hx (by simp) (fun j u hj => ?_) (fun u hu => ?_) (by unfold maxLen; omega) (by omega) hbase ?_
 ·have h1 := (List.getElem?_eq_some_iff.1 hj).1
  simp at h1
  subst h1
  simp at hj
  subst hj
  exact hg
 ·simp at hu
  subst hu
  rfl
 ·intro v' w' h1 h2 _
  exact h v' w' h1 h2
def ci (z : List Int) (k : Nat) : Int := z.getD k 0
theorem results_cell_row2 {P : Program} {fn : Func} {p u : Tmp} {ty : TypeId} (h : fn.results = #[.cell p ty, .tmp u]) (tmps : Array Value) (w : World) (g : Nat) (t : TypeId) (cs : Array Value) (fr : Nat × Nat) (d : TypeDesc)
    (hp : tmps.getD p undef = .pointer (some ⟨g, 0, none⟩)) (hg : w.heap[g]? = some (.cells cs t fr))
    (hu : P.underlying ty = some d) (hd : (match d with | .struct _ | .array _ _ => true | _ => false) = true) (hi : (P.info? ty).map (·.size) = some cs.size) :
    (results fn tmps).run P w = .ok (.tuple #[.agg cs, tmps.getD u undef]) w := by
 rw [results_cell_tmp h, hp]
 simp [asAddr, run_loadVar_row w g t ty cs fr d hg hu hd hi]
attribute [local go_sem] Oper.semAt_some
end Go.Proofs.YtffheegeaghfjaaGreatDoor
