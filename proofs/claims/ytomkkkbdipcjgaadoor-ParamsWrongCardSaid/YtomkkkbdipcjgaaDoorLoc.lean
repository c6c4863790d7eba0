/- Registers step by step: what is kept of the polynomial, the length, the elder polynomial, its number and how long ago. The code's register: what is off, the mended polynomial. The code's register: the mended polynomial. The code's register: one number more. The code's register: what is told, how it begins, Register. The code's Register. The code's Erasures: which place is beyond, which is there twice. Contract of Inverses. The code's Erasures. The document's forney syndromes. The code's Forney. The code's Find. The answer of law04 to its example. What the code and the document answer of the same erased places: the same error, or both the locator. What the register of a changed word is: the changed places that aren't erased; the errata locator's roots; the evaluator's degree. -/
import Derived.Test.YtomkkkbdipcjgaaDoorPy
import Derived.Test.YtomkkkbdipcjgaaDoorMu
import Derived.Test.YtomkkkbdipcjgaaDoorApw
import Derived.BigQuiet
import Derived.StillTailTactics
import Derived.Deep.RegionHeld3
import Derived.BigRegion
import Derived.Laws.EntriesVeiled
import Derived.Test.YtomkkkbdipcjgaaDoorIns
import Derived.Test.YtomkkkbdipcjgaaDoorErr
import Derived.Test.YtomkkkbdipcjgaaDoorGn
import Derived.Test.YtomkkkbdipcjgaaDoorGf
import Derived.Test.YtomkkkbdipcjgaaDoorOf
import Derived.Test.YtomkkkbdipcjgaaDoorTs
namespace Go.Proofs.YtomkkkbdipcjgaaDoor
set_option linter.unusedVariables false
namespace Gf
theorem dis_len (s : Nat → UInt8) (C : List UInt8) (L n : Nat) (h : C.length ≤ L + 1) : sm (fun j => gm (co C j) (s (n - j))) C.length = dis s (co C) L n :=
  (sm_more h fun j hj => by rw [co_ge hj, zero_gm]).symm
/-- the polynomial plus the elder one times a number and a power of x -/
def mendL (C B : List UInt8) (a : UInt8) (x : Nat) : List UInt8 := tab (fun j => co C j ^^^ gm a (ps x (co B) j)) (max C.length (x + B.length))
theorem mendL_length (C B : List UInt8) (a : UInt8) (x : Nat) : (mendL C B a x).length = max C.length (x + B.length) := by simp [mendL]
theorem co_mendL (C B : List UInt8) (a : UInt8) (x : Nat) : co (mendL C B a x) = mend (co C) (co B) a x := funext fun j => by
  unfold mendL mend
  refine co_tab' _ _ _ fun i hi => ?_
  unfold ps
  rw [co_ge (by omega)]
  split
  · rw [co_ge (by omega), gm_zero]; rfl
  · rw [gm_zero]; rfl
/-- behind n numbers -/
structure Reg (s : Nat → UInt8) (n : Nat) (C : List UInt8) (L : Nat) (B : List UInt8) (b : UInt8) (x : Nat) : Prop where
  run : Run s n (co C) L
  least : Least s n L
  le : L ≤ n
  len : C.length ≤ L + 1
  bpos : 1 ≤ B.length
  bne : b ≠ 0
  xle : x ≤ n
  blen : x + B.length ≤ n + 1
  old : (L = 0 ∧ x = n ∧ B = [1] ∧ b = 1) ∨ ∃ M m, Run s m (co B) M ∧ B.length ≤ M + 1 ∧ L + M = m + 1 ∧ x + m + 1 = n ∧ dis s (co B) M m = b
theorem Reg.pos {s : Nat → UInt8} {n L x : Nat} {C B : List UInt8} {b : UInt8} (h : Reg s n C L B b x) : 1 ≤ C.length := by
  have := co_lt (ys := C) (i := 0) (by rw [h.run.one]; decide)
  omega
theorem Reg.first (s : Nat → UInt8) : Reg s 0 [1] 0 [1] 1 0 :=
  ⟨Run.first rfl, fun d M k => Nat.zero_le _, Nat.le_refl _, Nat.le_refl _, Nat.le_refl _, by decide, Nat.le_refl _, Nat.le_refl _, .inl ⟨rfl, rfl, rfl, rfl⟩⟩
theorem Reg.same {s : Nat → UInt8} {n L x : Nat} {C B : List UInt8} {b : UInt8} (h : Reg s n C L B b x) (hd : dis s (co C) L n = 0) : Reg s (n + 1) C L B b (x + 1) :=
  ⟨h.run.more fun _ => hd, h.least.more, by have := h.le; omega, h.len, h.bpos, h.bne, by have := h.xle; omega, by have := h.blen; omega, by
    rcases h.old with ⟨h1, h2, h3, h4⟩ | ⟨M, m, h1, h2, h3, h4, h5⟩
    · exact .inl ⟨h1, by omega, h3, h4⟩
    · exact .inr ⟨M, m, h1, h2, h3, by omega, h5⟩⟩
theorem Reg.mended {s : Nat → UInt8} {n L x : Nat} {C B : List UInt8} {b : UInt8} (h : Reg s n C L B b x) (hd : dis s (co C) L n ≠ 0) :
    Run s (n + 1) (co (mendL C B (gd (dis s (co C) L n) b) (x + 1))) (max L (n + 1 - L)) ∧ (mendL C B (gd (dis s (co C) L n) b) (x + 1)).length ≤ max L (n + 1 - L) + 1 := by
  have hl := h.len
  have hb := h.blen
  have hle := h.le
  rw [co_mendL, mendL_length]
  rcases h.old with ⟨h1, h2, h3, h4⟩ | ⟨M, m, h1, h2, h3, h4, h5⟩
  · subst h1
    refine ⟨?_, by omega⟩
    have : max 0 (n + 1 - 0) = n + 1 := by omega
    rw [this]
    refine Run.first ?_
    unfold mend ps
    rw [if_neg (by omega), gm_zero, UInt8.xor_zero, h.run.one]
  · have hx : x + 1 = n - m := by omega
    have hs := Run.step h.run (fun j hj => co_ge (by omega)) h1 (fun j hj => co_ge (by omega)) (by omega) h3 (show gm (gd (dis s (co C) L n) b) (dis s (co B) M m) = dis s (co C) L n by rw [h5]; exact gd_gm _ _ h.bne)
    rw [← hx] at hs
    exact ⟨hs.1, by omega⟩
theorem Reg.longer {s : Nat → UInt8} {n L x : Nat} {C B : List UInt8} {b : UInt8} (h : Reg s n C L B b x) (hd : dis s (co C) L n ≠ 0) (h2 : 2 * L < n + 1) :
    Reg s (n + 1) (mendL C B (gd (dis s (co C) L n) b) (x + 1)) (n + 1 - L) C (dis s (co C) L n) 0 := by
  have hm := h.mended hd
  have hle := h.le
  have hl := h.len
  have e : max L (n + 1 - L) = n + 1 - L := by omega
  have hls := h.least.step h.run hd
  rw [e] at hm hls
  exact ⟨hm.1, hls, by omega, hm.2, h.pos, hd, by omega, by omega, .inr ⟨L, n, h.run, hl, by omega, by omega, rfl⟩⟩
theorem Reg.still {s : Nat → UInt8} {n L x : Nat} {C B : List UInt8} {b : UInt8} (h : Reg s n C L B b x) (hd : dis s (co C) L n ≠ 0) (h2 : ¬ 2 * L < n + 1) :
    Reg s (n + 1) (mendL C B (gd (dis s (co C) L n) b) (x + 1)) L B b (x + 1) := by
  have hm := h.mended hd
  have hls := h.least.step h.run hd
  have hle := h.le
  have e : max L (n + 1 - L) = L := by omega
  rw [e] at hm hls
  refine ⟨hm.1, hls, by omega, hm.2, h.bpos, h.bne, by have := h.xle; omega, by have := h.blen; omega, ?_⟩
  rcases h.old with ⟨h1, _⟩ | ⟨M, m, h1, h2, h3, h4, h5⟩
  · omega
  · exact .inr ⟨M, m, h1, h2, h3, by omega, h5⟩
end Gf
end Go.Proofs.YtomkkkbdipcjgaaDoor
namespace Go.Proofs.YtomkkkbdipcjgaaDoor
open Go.RowKit
set_option linter.unusedVariables false
set_option linter.unusedSimpArgs false
def offS (C r : List UInt8) (k : Nat) : UInt8 := Gf.sm (fun j => Gf.gm (co C j) (co r (r.length - 1 - j))) k
def OffAt (C r : List UInt8) (w : World) (s iv : Value) (wr : World) : Prop :=
  ∃ k : Nat, k ≤ C.length ∧ iv = .int .i64 k ∧ s = .int .u8 ((offS C r k).toNat : Int) ∧ Kit.Dn w wr
end Go.Proofs.YtomkkkbdipcjgaaDoor
namespace Go.Proofs.YtomkkkbdipcjgaaDoor
open Go.RowKit
set_option linter.unusedVariables false
set_option linter.unusedSimpArgs false
/-- the mended polynomial, as the code writes it -/
theorem mend_mix (C B : List UInt8) (a : UInt8) (x n : Nat) (h1 : C.length ≤ n) (h2 : x + B.length ≤ n) (hn : n = max C.length (x + B.length)) : mix (splice (List.replicate n 0) 0 C) x B a = Gf.mendL C B a x := by
  have hl : (splice (List.replicate n (0 : UInt8)) 0 C).length = n := by rw [length_splice _ _ _ (by simp only [List.length_replicate]; omega)]; simp
  refine list_ext (by rw [mix_length, hl, Gf.mendL_length, hn]) fun i hi => ?_
  rw [mix_length, hl] at hi
  rw [co_mix _ _ _ _ _ (by omega), co_splice _ _ _ _ (by simp only [List.length_replicate]; omega), Gf.co_mendL, zeros_co]
  unfold Gf.mend
  congr 1
  · rw [Nat.sub_zero]
    split
    · rfl
    · exact (co_ge (by omega)).symm
  · unfold Gf.ps
    split
    · rw [Gf.gm_comm]
    · rw [Gf.gm_zero]
section
variable {P : Program} {ops : Array Oper} {Q : Exit → Act → World → Prop} {i : Nat} {o : Oper} {b : Act} {v v' : World} {x : Value} {K : Act → World → Prop}
theorem op_val (ho : ops[i]? = some o) (hg : o.guard = none) (h : (execOp b.eval o).run P v = .ok (.value x) v) (hk : K (b.put o.dst x) v) : wpOp P ops Q i K b v := by
  unfold wpOp
  rw [ho]
  dsimp only
  rw [if_pos (by simp [Region.wanted, hg])]
  refine .inl ?_
  unfold Oper.wp
  rw [h]
  exact hk
theorem op_put {d : Tmp} (ho : ops[i]? = some o) (hd : o.dst = some d) (hg : o.guard = none) (h : (execOp b.eval o).run P v = .ok (.value x) v) (hk : K { b with tmps := b.tmps.setIfInBounds d x } v) : wpOp P ops Q i K b v :=
  op_val ho hg h (by rw [hd]; exact hk)
theorem op_call {d : Tmp} {f : FuncId} {xs : Array Operand} {ts : Array TypeId} {args : Array Value} {R : Value → World → Prop} (ho : ops[i]? = some o) (hd : o.dst = some d) (hg : o.guard = none)
    (hop : o.op = .call { callee := .value (.func f), args := xs, argTypes := ts }) (ek : ∀ args w, (callFunc f args).run P w = .ok (.enter f args) w) (ha : xs.map b.eval = args) (hc : Calls P f args v fun e v' => ∃ x, e = .returned x ∧ R x v') (h : ∀ x v', R x v' → K { b with tmps := b.tmps.setIfInBounds d x } v') : wpOp P ops Q i K b v :=
  Rg.op_fn ho hg hop ek ha hc fun x v' hR => by rw [hd]; exact h x v' hR
theorem takeH {md : Region.Mode} {S : World → Prop} {d : Tmp} {fuel : Nat} {listed : Array Bool} (hi : ops[i]? = some o) (hd : o.dst = some d)
    (hs : Region.noSelect ops = true) (hf : Region.free md ops listed i = true) (hr : (Region.ready md ops listed).contains i = true)
    (hQ : ∀ c a w, Q (.panic c) (a.put o.dst x) w → Q (.panic c) a w) (hy : YieldsIf P ops S o x b) (hS : S v)
    (h : wpAnyH P md ops Q S fuel (listed.setIfInBounds i true) { b with tmps := b.tmps.setIfInBounds d x } v) : wpAnyH P md ops Q S (fuel + 1) listed b v :=
  wpAnyH_take hi hs hf hr hQ hy hS (by rw [hd]; exact h)
theorem op_skip (ho : ops[i]? = some o) (hg : o.guard = none) (hd : o.dst = none) (h : (execOp b.eval o).run P v = .ok .skip v') (hk : K b v') : wpOp P ops Q i K b v := by
  unfold wpOp
  rw [ho]
  dsimp only
  rw [if_pos (by simp [Region.wanted, hg])]
  refine .inl ?_
  unfold Oper.wp
  rw [h]
  show K (b.put o.dst undef) _
  rw [hd]
  exact hk
end
def MeAt (w0 : World) (g n x : Nat) (a : UInt8) (ys B : List UInt8) (i : Value) (wr : World) : Prop :=
  ∃ k : Nat, k ≤ B.length ∧ i = .int .i64 k ∧ Buf wr g n (mix ys x (B.take k) a) ∧ Only g w0 wr
end Go.Proofs.YtomkkkbdipcjgaaDoor
namespace Go.Proofs.YtomkkkbdipcjgaaDoor
open Go.RowKit
set_option linter.unusedVariables false
set_option linter.unusedSimpArgs false
/-- the variables that feed writes -/
def FM (b k : Nat) : Prop := k = b + 2 ∨ k = b + 3 ∨ k = b + 5 ∨ k = b + 6 ∨ k = b + 7
section
variable {b T : Nat} {Ct : Array Value} {vn vl vo vw va : Value} {w w' : World}
theorem fm_set {k B : Nat} {u : Value} (h : FM b k) : Bts (FM b) B w (w.setCell ⟨k, 0, none⟩ u) := Bts.of_only (grownBy_setCell' w k u) h
theorem fm_below {w' : World} (h : Below w.heap.size w w') : Bts (FM b) w.heap.size w w' :=
  ⟨h.os, h.tape, h.output, h.size, fun i o _ hi _ => (h.block i (Array.getElem?_eq_some_iff.1 hi).1).trans hi⟩
end
theorem bts_mono {M : Nat → Prop} {A B : Nat} {a b : World} (h : Bts M B a b) (hA : A ≤ B) : Bts M A a b := ⟨h.os, h.tape, h.output, h.size, fun k o hk ho hc => h.same k o hk ho (hc.imp id (fun h => by omega))⟩
theorem off_dis (s C r : List UInt8) (L n : Nat) (hC : C.length ≤ L + 1) (hL : L ≤ n) (hr : r = s.take (n + 1)) (hl : r.length = n + 1) : offS C r C.length = Gf.dis (co s) (co C) L n := by
  rw [← Gf.dis_len (co s) C L n hC]
  unfold offS
  refine Gf.sm_congr fun j hj => ?_
  rw [hl, Nat.add_sub_cancel, hr, co_take, if_pos (by omega)]
end Go.Proofs.YtomkkkbdipcjgaaDoor
namespace Go.Proofs.YtomkkkbdipcjgaaDoor
open Go.RowKit
set_option linter.unusedVariables false
set_option linter.unusedSimpArgs false
theorem below_alloc {W X : World} (h : Below W.heap.size W X) (o : Obj) : Below W.heap.size W (X.alloc o) := h.alloc h.size o
end Go.Proofs.YtomkkkbdipcjgaaDoor
namespace Go.Proofs.YtomkkkbdipcjgaaDoor
open Go.RowKit
set_option linter.unusedVariables false
set_option linter.unusedSimpArgs false
def RegTo (s : List UInt8) (w : World) (e : Ending) (w' : World) : Prop :=
  ∃ C L x, e = .returned (.tuple #[x, .int .i64 ((L : Nat) : Int)]) ∧ RowV (tr C) x w' ∧ Below w.heap.size w w' ∧ Gf.Run (co s) s.length (co C) L ∧ Gf.Least (co s) s.length L ∧ L ≤ s.length ∧ C.length ≤ L + 1
end Go.Proofs.YtomkkkbdipcjgaaDoor
namespace Go.Proofs.YtomkkkbdipcjgaaDoor
open Go.RowKit
set_option linter.unusedVariables false
set_option linter.unusedSimpArgs false
def IxAt (n : Int) (z : List Int) (w : World) (i : Value) (wr : World) : Prop := ∃ k : Nat, k ≤ z.length ∧ i = .int .i64 k ∧ (∀ j, j < k → 0 ≤ ci z j ∧ ci z j < n) ∧ wr = w
def IxTo (n : Int) (z : List Int) (w : World) (e : Ending) (w' : World) : Prop :=
  w' = w ∧ (((∃ k, k < z.length ∧ (ci z k < 0 ∨ n ≤ ci z k)) ∧ ∃ k : Nat, e = .returned (.int .i64 (k : Int))) ∨ ((∀ k, k < z.length → 0 ≤ ci z k ∧ ci z k < n) ∧ e = .returned (.int .i64 (-1))))
theorem ints_cell {z : List Int} {o : Option Addr} {c : Nat} {w : World} (hS : RowIs w o (intsV z) c) (k : Nat) (hk : k < z.length) : ∃ b off, o = some ⟨b, off, none⟩ ∧ w.cell? ⟨b, off + k, none⟩ = some (.int .i64 (ci z k)) := by
  obtain ⟨b, off, rfl, _, hc⟩ := hS.cells (by simp; omega)
  exact ⟨b, off, rfl, hc k _ (by simp [intsV, ci, List.getD_eq_getElem?_getD, hk])⟩
def CtTo (n : Int) (z : List Int) (w : World) (e : Ending) (w' : World) : Prop :=
  w' = w ∧ (((∃ k, k < z.length ∧ (ci z k < 0 ∨ n ≤ ci z k)) ∧ e = .returned (.bool true)) ∨ ((∀ k, k < z.length → 0 ≤ ci z k ∧ ci z k < n) ∧ e = .returned (.bool false)))
def zb : Array Value := Array.replicate 255 (.bool false)
/-- which places have been seen -/
def Seen (z : List Int) (k : Nat) (D : Array Value) : Prop := D.size = 255 ∧ ∀ p, p < 255 → D[p]? = some (.bool (decide (∃ j, j < k ∧ ci z j = (p : Int))))
def DbTo (z : List Int) (w : World) (e : Ending) (w' : World) : Prop :=
  Below w.heap.size w w' ∧ (((∃ i j, j < i ∧ i < z.length ∧ ci z i = ci z j) ∧ e = .returned (.bool true)) ∨ ((∀ i j, j < i → i < z.length → ci z i ≠ ci z j) ∧ e = .returned (.bool false)))
theorem Seen.step {z : List Int} {k p : Nat} {D : Array Value} (h : Seen z k D) (hp : ci z k = (p : Int)) (hp2 : p < 255) : Seen z (k + 1) (D.setIfInBounds p (.bool true)) := by
  refine ⟨by simp [h.1], fun q hq => ?_⟩
  simp only [Array.getElem?_setIfInBounds]
  by_cases e : p = q
  · subst e
    rw [if_pos rfl, if_pos (by rw [h.1]; exact hq)]
    congr 2
    exact (decide_eq_true ⟨k, by omega, hp⟩).symm
  · rw [if_neg e, h.2 q hq]
    congr 2
    refine decide_eq_decide.2 ⟨fun ⟨j, h1, h2⟩ => ⟨j, by omega, h2⟩, fun ⟨j, h1, h2⟩ => ⟨j, ?_, h2⟩⟩
    by_cases ej : j = k
    · rw [ej, hp] at h2
      omega
    · omega
end Go.Proofs.YtomkkkbdipcjgaaDoor
namespace Go.Proofs.YtomkkkbdipcjgaaDoor
open Go.RowKit
set_option linter.unusedVariables false
attribute [local go_sem] Oper.semAt_some
end Go.Proofs.YtomkkkbdipcjgaaDoor
namespace Go.Proofs.YtomkkkbdipcjgaaDoor
open Go.RowKit
set_option linter.unusedVariables false
set_option linter.unusedSimpArgs false
/-- these places may be erased -/
def EOk (n : Nat) (z : List Int) : Prop := (∀ k, k < z.length → 0 ≤ ci z k ∧ ci z k < n) ∧ (∀ i j, j < i → i < z.length → ci z i ≠ ci z j) ∧ z.length ≤ 32
def er_v (A : Nat → Addr) (k : Nat) : Ending := .returned (.tuple #[.slice none 0 0, .iface 127 (.pointer (some (A k)))])
def CErTo (n : Nat) (z : List Int) (A : Nat → Addr) (w : World) (e : Ending) (w' : World) : Prop :=
  Below w.heap.size w w' ∧ (((∃ k, k < z.length ∧ (ci z k < 0 ∨ (n : Int) ≤ ci z k)) ∧ e = er_v A 0) ∨
    ((∀ k, k < z.length → 0 ≤ ci z k ∧ ci z k < n) ∧ (((∃ i j, j < i ∧ i < z.length ∧ ci z i = ci z j) ∧ e = er_v A 9) ∨
      ((∀ i j, j < i → i < z.length → ci z i ≠ ci z j) ∧ ((32 < z.length ∧ e = er_v A 15) ∨
        (z.length ≤ 32 ∧ ∃ x, e = .returned (.tuple #[x, .nilIface]) ∧ RowV (tr (prodL (fun r => [1, r]) (xsL n z) z.length)) x w'))))))
theorem errs_drew {w : World} {A : Nat → Addr} (h : Er.Six w A) : Er.Six w.drew A := h.later (Kit.dn' w 1)
def CeAt (n : Nat) (z : List Int) (w w2 : World) (v i : Value) (wr : World) : Prop :=
  ∃ k : Nat, k ≤ z.length ∧ i = .int .i64 k ∧ wr.ownsRow w2.heap.size 5 1 v k (bytesV ((xsL n z).take k)) ∧ Below w2.heap.size w2 wr
end Go.Proofs.YtomkkkbdipcjgaaDoor
namespace Go.Proofs.YtomkkkbdipcjgaaDoor
open Go.RowKit
set_option linter.unusedVariables false
set_option linter.unusedSimpArgs false
theorem row_cells_at {X : World} {A : Nat} {t : TypeId} {z : List UInt8} (h : X.heap[A]? = some (.cells (bytesV z).toArray t (0, 0))) (hm : z.length ≤ maxLen) : RowIs X (some ⟨A, 0, none⟩) (bytesV z) z.length :=
  ⟨by simp, hm, (fun e => by cases e), fun h0 => ⟨A, 0, rfl, (Array.getElem?_eq_some_iff.1 h).1, fun i v hv => by
    rw [Nat.zero_add]
    simp only [World.cell?, h]
    simpa using hv⟩⟩
/-- the coefficients from that of x to the power e on, up to the power 31 -/
def forL (s g : List UInt8) : List UInt8 := tab (fun i => co (mulL s g) ((tr g).length - 1 + i)) (32 - ((tr g).length - 1))
def FoAt (P : List UInt8) (e : Nat) (w : World) (v iv : Value) (wr : World) : Prop :=
  ∃ k : Nat, e + k ≤ 32 ∧ iv = .int .i64 ((e + k : Nat) : Int) ∧ wr.ownsRow w.heap.size 5 1 v k (bytesV (tab (fun i => co P (e + i)) k)) ∧ Below w.heap.size w wr
end Go.Proofs.YtomkkkbdipcjgaaDoor
namespace Go.Proofs.YtomkkkbdipcjgaaDoor
open Go.RowKit
set_option linter.unusedVariables false
set_option linter.unusedSimpArgs false
/-- the row so far -/
def fnL (P : List UInt8) (E N k : Nat) : List UInt8 := tab (fun i => if i < k then co P (E + i) else 0) N
theorem fnL_zero (P : List UInt8) (E N : Nat) : List.replicate N (0 : UInt8) = fnL P E N 0 := list_ext (by simp [fnL]) fun i hi => by
  rw [zeros_co, fnL, co_tab _ _ _ (by simpa using hi), if_neg (by omega)]
theorem fnL_set (P : List UInt8) (E N k : Nat) (h : k < N) : (fnL P E N k).set k (co P (E + k)) = fnL P E N (k + 1) := list_ext (by simp [fnL]) fun i hi => by
  have hi2 : i < N := by simpa [fnL] using hi
  rw [co_set, fnL, fnL, co_tab _ _ _ hi2, co_tab _ _ _ hi2, tab_length]
  by_cases e : k = i
  · subst e
    rw [if_pos ⟨rfl, h⟩, if_pos (by omega)]
  · rw [if_neg (fun h => e h.1)]
    by_cases h2 : i < k
    · rw [if_pos h2, if_pos (by omega)]
    · rw [if_neg h2, if_neg (by omega)]
theorem fnL_skip (P : List UInt8) (E N k : Nat) (h : P.length ≤ E + k) : fnL P E N k = fnL P E N (k + 1) := list_ext (by simp [fnL]) fun i hi => by
  have hi2 : i < N := by simpa [fnL] using hi
  rw [fnL, fnL, co_tab _ _ _ hi2, co_tab _ _ _ hi2]
  by_cases h2 : i < k
  · rw [if_pos h2, if_pos (by omega)]
  · by_cases e : i = k
    · subst e
      rw [if_neg h2, if_pos (by omega), co_ge h]
    · rw [if_neg h2, if_neg (by omega)]
def CfAt (P : List UInt8) (E N : Nat) (w3 : World) (iv : Value) (wr : World) : Prop :=
  ∃ k : Nat, k ≤ N ∧ iv = .int .i64 k ∧ Buf wr w3.heap.size N (fnL P E N k) ∧ Below w3.heap.size w3 wr
end Go.Proofs.YtomkkkbdipcjgaaDoor
namespace Go.Proofs.YtomkkkbdipcjgaaDoor
open Go.RowKit
set_option linter.unusedVariables false
set_option linter.unusedSimpArgs false
theorem xsL_ne (n : Nat) (z : List Int) : ∀ y ∈ xsL n z, y ≠ 0 := fun y hy => by
  obtain ⟨p, _, rfl⟩ := List.mem_map.1 hy
  exact Gf.al_ne _
/-- the erasure locator -/
theorem er_loc (n : Nat) (z : List Int) : tr (prodL (fun r => [1, r]) (xsL n z) z.length) = Gf.locL (xsL n z) := by
  rw [← Gf.tr_loc _ (xsL_ne n z)]
  refine tr_congr fun i => ?_
  have hl : (xsL n z).length = z.length := by simp [xsL]
  rw [Gf.prod_loc (xsL n z) z.length (by omega), List.take_of_length_le (by omega)]
theorem loc_len (n : Nat) (z : List Int) : (Gf.locL (xsL n z)).length = z.length + 1 := by rw [Gf.locL_length]; simp [xsL]
theorem loc_tr (n : Nat) (z : List Int) : tr (Gf.locL (xsL n z)) = Gf.locL (xsL n z) := Gf.tr_loc _ (xsL_ne n z)
theorem for_len (s : List UInt8) (n : Nat) (z : List Int) : (forL s (Gf.locL (xsL n z))).length = 32 - z.length := by
  unfold forL
  rw [tab_length, loc_tr, loc_len, Nat.add_sub_cancel]
/-- a register of the code's -/
structure RF (R C : List UInt8) (L : Nat) : Prop where
  run : Gf.Run (co R) R.length (co C) L
  least : Gf.Least (co R) R.length L
  le : L ≤ R.length
  len : C.length ≤ L + 1
def fz : Value := .agg #[.int .i64 0, .slice none 0 0, .slice none 0 0]
def fe_v (A : Nat → Addr) (k : Nat) : Ending := .returned (.tuple #[fz, .iface 127 (.pointer (some (A k)))])
/-- the errata locator -/
def ertL (C : List UInt8) (n : Nat) (z : List Int) : List UInt8 := tr (mulL (tr C) (Gf.locL (xsL n z)))
/-- the evaluator -/
def evaL (s C : List UInt8) (n : Nat) (z : List Int) : List UInt8 := tr ((tr (mulL (tr s) (ertL C n z))).take (lowN 32 (tr (mulL (tr s) (ertL C n z))).length))
def CFiTo (s : List UInt8) (n : Nat) (z : List Int) (A : Nat → Addr) (w : World) (e : Ending) (w' : World) : Prop :=
  Below w.heap.size w w' ∧ (((∃ k, k < z.length ∧ (ci z k < 0 ∨ (n : Int) ≤ ci z k)) ∧ e = fe_v A 0) ∨
    ((∀ k, k < z.length → 0 ≤ ci z k ∧ ci z k < n) ∧ (((∃ i j, j < i ∧ i < z.length ∧ ci z i = ci z j) ∧ e = fe_v A 9) ∨
      ((∀ i j, j < i → i < z.length → ci z i ≠ ci z j) ∧ ((32 < z.length ∧ e = fe_v A 15) ∨
        (z.length ≤ 32 ∧ ∃ C L, RF (forL s (Gf.locL (xsL n z))) C L ∧
          (((32 < 2 * L + z.length ∨ (tr C).length ≤ L) ∧ e = fe_v A 16) ∨
           (2 * L + z.length ≤ 32 ∧ L < (tr C).length ∧ ∃ x1 x2, e = .returned (.tuple #[.agg #[.int .i64 (L : Int), x1, x2], .nilIface]) ∧ RowV (ertL C n z) x1 w' ∧ RowV (evaL s C n z) x2 w'))))))))
theorem fnd_below {w : World} {g n : Nat} (h : n ≤ g) (x y v : Value) : Below n w (((w.setCell ⟨g, 0, none⟩ x).setCell ⟨g, 1, none⟩ y).setCell ⟨g, 2, none⟩ v) :=
  (((Below.refl n w).setCell (p := ⟨g, 0, none⟩) h _).setCell (p := ⟨g, 1, none⟩) h _).setCell (p := ⟨g, 2, none⟩) h _
end Go.Proofs.YtomkkkbdipcjgaaDoor
namespace Go.Proofs.YtomkkkbdipcjgaaDoor
open Go.RowKit
set_option linter.unusedVariables false
set_option linter.unusedSimpArgs false
theorem fz_one {C : List UInt8} (h1 : co C 0 = 1) (h2 : C.length ≤ 1) : tr C = [1] := by
  have h3 := co_lt (ys := C) (i := 0) (by rw [h1]; decide)
  have h4 : C = [1] := list_ext (by simp; omega) fun i hi => by
    obtain rfl : i = 0 := by omega
    rw [h1]; rfl
  rw [h4]; rfl
/-- where nothing is wrong the shortest register has no numbers -/
theorem zero_reg {R C : List UInt8} {L : Nat} (h : RF R C L) (h0 : ∀ i, i < R.length → co R i = 0) : L = 0 ∧ tr C = [1] := by
  have h1 := h.least (co [1]) 0 ⟨rfl, fun i _ hi => by
    show Gf.sm (fun j => Gf.gm (co [1] j) (co R (i - j))) 1 = 0
    show (0 : UInt8) ^^^ Gf.gm (co [1] 0) (co R (i - 0)) = 0
    rw [Nat.sub_zero, h0 i hi, Gf.gm_zero]; rfl⟩
  have h2 := h.len
  exact ⟨by omega, fz_one h.run.one (by omega)⟩
theorem co_for (s g : List UInt8) (i : Nat) (h : i < (forL s g).length) : co (forL s g) i = co (mulL s g) ((tr g).length - 1 + i) := by
  unfold forL at h ⊢
  rw [tab_length] at h
  exact co_tab _ _ _ h
theorem for_zero (g : List UInt8) (i : Nat) (h : i < (forL zsyn g).length) : co (forL zsyn g) i = 0 := by
  rw [co_for _ _ _ h, co_mulL']
  exact Gf.sm_zero fun j _ => by rw [zsyn, zeros_co, Gf.zero_gm]
end Go.Proofs.YtomkkkbdipcjgaaDoor
namespace Go.Proofs.YtomkkkbdipcjgaaDoor
open Go.RowKit
set_option linter.unusedVariables false
set_option linter.unusedSimpArgs false
theorem does_load_row4 {P : Program} {G : Nat → Value → World → Prop} {Q : Exit → Act → World → Prop} {i : Nat} {o : Oper} {b : Act} {v : World} {x : Operand} {ty t : TypeId} {g : Nat} {cs : Array Value} {fr : Nat × Nat} {d : TypeDesc} (ho : o.op = .load ty x) (hx : b.eval x = .pointer (some ⟨g, 0, none⟩))
    (hg : v.heap[g]? = some (.cells cs t fr)) (hu : P.underlying ty = some d) (hd : (match d with | .struct _ | .array _ _ => true | _ => false) = true) (hi : (P.info? ty).map (·.size) = some cs.size) (hG : G i (.agg cs) v) : Rg.Does P G Q i o b v :=
  Rg.does_pure _ (by simp only [execOp, ho, hx, Instr.loadAt, Instr.sureAddr, Sem.run_bind, Sem.run_pure, Result.andThen_ok, run_loadVar_row v g t ty cs fr d hg hu hd hi]) hG
theorem arr_size {ys : List UInt8} (h : ys.length = 32) : (Tryd.prog.info? 125).map (·.size) = some (bytesV ys).toArray.size := by
  rw [show (bytesV ys).toArray.size = 32 by simp [h]]; kernel_rfl
theorem arr_under : Tryd.prog.underlying 125 = some (.array 32 5) := by kernel_rfl
end Go.Proofs.YtomkkkbdipcjgaaDoor
namespace Go.Proofs.YtomkkkbdipcjgaaDoor
set_option linter.unusedVariables false
theorem co_sumW4 (a b : List UInt8) (h : a.length = b.length) (p : Nat) : co (Gf.sumW a b) p = co a p ^^^ co b p := by
  by_cases hp : p < a.length
  · simp only [co, Gf.sumW, List.getD_eq_getElem?_getD, List.getElem?_zipWith]
    rw [List.getElem?_eq_getElem hp, List.getElem?_eq_getElem (by omega)]
    rfl
  · rw [co_ge (by simp [Gf.sumW]; omega), co_ge (by omega), co_ge (by omega)]; rfl
theorem sum_ne {a b : List UInt8} (h : a.length = b.length) (p : Nat) : co (Gf.sumW a b) p ≠ 0 ↔ co b p ≠ co a p := by
  rw [co_sumW4 a b h]
  constructor
  · intro h1 h2
    exact h1 (by rw [h2, UInt8.xor_self])
  · intro h1 h2
    exact h1 (Gf.xor_eq_zero _ _ h2).symm
theorem mem_xsL {n p : Nat} {z : List Int} (hn : n ≤ 255) (hp : p < n) (hz : ∀ k, k < z.length → 0 ≤ ci z k ∧ ci z k < n) : Gf.al (n - 1 - p) ∈ xsL n z ↔ (p : Int) ∈ z := by
  have hz2 : ∀ q ∈ z, 0 ≤ q ∧ q < n := fun q hq => by
    obtain ⟨k, hk, rfl⟩ := List.getElem_of_mem hq
    have := hz k hk
    unfold ci at this
    rw [List.getD_eq_getElem?_getD, List.getElem?_eq_getElem hk] at this
    exact this
  constructor
  · intro h
    obtain ⟨q, hq, he⟩ := List.mem_map.1 h
    have h1 := hz2 q hq
    have h2 := (Gf.al_inj _ _).1 he
    have : q = (p : Int) := by omega
    rw [← this]; exact hq
  · intro h
    exact List.mem_map.2 ⟨(p : Int), h, by simp⟩
structure Chg (v W : List UInt8) (n : Nat) (z : List Int) (H : List Nat) : Prop where
  code : IsCode v
  lv : v.length = n
  lw : W.length = n
  hn : n ≤ 255
  ok : EOk n z
  nd : H.Nodup
  mem : ∀ p ∈ H, p < n ∧ co W p ≠ co v p ∧ (p : Int) ∉ z
  all : ∀ p, p < n → co W p ≠ co v p → (p : Int) ∉ z → p ∈ H
  few : 2 * H.length + z.length ≤ 32
def othY (v W : List UInt8) (n : Nat) (z : List Int) : List UInt8 := (Gf.oth (xsL n z) (Gf.sumW v W)).map (·.2)
theorem Chg.reg {v W C : List UInt8} {n L : Nat} {z : List Int} {H : List Nat} (h : Chg v W n z H) (hrf : RF (forL (synL W) (Gf.locL (xsL n z))) C L) :
    L = H.length ∧ ∀ j, co C j = co (Gf.locL (othY v W n z)) j := by
  have hvw : v.length = W.length := by rw [h.lv, h.lw]
  have hdl : (Gf.sumW v W).length = n := by simp [Gf.sumW, h.lv, h.lw]
  have hel : (xsL n z).length = z.length := by simp [xsL]
  have hfl := for_len (synL W) n z
  have h32 := h.ok.2.2
  have hle := Gf.oth_le (xsL n z) (Gf.sumW v W) (by rw [hdl]; exact h.hn) H fun p hp hc hx => by
    rw [hdl] at hp hx
    refine h.all p hp ((sum_ne hvw p).1 hc) fun hm => hx ((mem_xsL h.hn hp h.ok.1).2 hm)
  have hge := Gf.oth_ge (xsL n z) (Gf.sumW v W) (by rw [hdl]; exact h.hn) H h.nd fun p hp => by
    obtain ⟨h1, h2, h3⟩ := h.mem p hp
    rw [hdl]
    exact ⟨h1, (sum_ne hvw p).2 h2, fun hm => h3 ((mem_xsL h.hn h1 h.ok.1).1 hm)⟩
  have hfew := h.few
  have hrun := hrf.run
  have hlst := hrf.least
  rw [hfl] at hrun hlst
  have := Gf.oth_reg (xsL n z) (Gf.sumW v W) (synL W) (Gf.locL (xsL n z)) _ C L (32 - z.length) (by rw [hdl]; exact h.hn) (fun _ => rfl) (fun j hj => by
      rw [synL, co_tab _ _ _ hj, Gf.hv_sum _ _ _ hvw, h.code j hj, UInt8.zero_xor]) (by rw [hel]; omega) (fun i hi => by
      rw [co_for _ _ _ (by rw [hfl]; exact hi), loc_tr, loc_len, Nat.add_sub_cancel, hel]) (by omega) hrun hlst hrf.len
  exact ⟨by omega, this.2⟩
theorem Chg.len {v W C : List UInt8} {n L : Nat} {z : List Int} {H : List Nat} (h : Chg v W n z H) (hrf : RF (forL (synL W) (Gf.locL (xsL n z))) C L) : (tr C).length = L + 1 := by
  obtain ⟨h1, h2⟩ := h.reg hrf
  have e : tr C = Gf.locL (othY v W n z) := by
    rw [← Gf.tr_loc (othY v W n z) (Gf.oth_ne _ _)]
    exact tr_congr h2
  have h3 := hrf.len
  have h4 := tr_le C
  have hvw : v.length = W.length := by rw [h.lv, h.lw]
  have hdl : (Gf.sumW v W).length = n := by simp [Gf.sumW, h.lv, h.lw]
  have hge := Gf.oth_ge (xsL n z) (Gf.sumW v W) (by rw [hdl]; exact h.hn) H h.nd fun p hp => by
    obtain ⟨h1, h2, h3⟩ := h.mem p hp
    rw [hdl]
    exact ⟨h1, (sum_ne hvw p).2 h2, fun hm => h3 ((mem_xsL h.hn h1 h.ok.1).1 hm)⟩
  have h5 : (tr C).length = (othY v W n z).length + 1 := by rw [e, Gf.locL_length]
  have h6 : (othY v W n z).length = (Gf.oth (xsL n z) (Gf.sumW v W)).length := by simp [othY]
  omega
/-- which values' inverses are roots of the errata locator -/
theorem Chg.root {v W C : List UInt8} {n L : Nat} {z : List Int} {H : List Nat} (h : Chg v W n z H) (hrf : RF (forL (synL W) (Gf.locL (xsL n z))) C L) (p : Nat) (hp : p < n) (y : UInt8) (hy : Gf.gm (Gf.al (n - 1 - p)) y = 1) :
    evL (ertL C n z) y = 0 ↔ ((p : Int) ∈ z ∨ p ∈ H) := by
  obtain ⟨h1, h2⟩ := h.reg hrf
  have hvw : v.length = W.length := by rw [h.lv, h.lw]
  have hdl : (Gf.sumW v W).length = n := by simp [Gf.sumW, h.lv, h.lw]
  have hz : ∀ ys : List UInt8, evL (Gf.locL ys) y = 0 ↔ Gf.al (n - 1 - p) ∈ ys := fun ys => by
    rw [← Gf.hv_locL, Gf.hv_ev _ _ _ hy (by rw [Gf.locL_length]; omega)]
    rw [Gf.gm_eq_zero _ _ (Gf.px_ne (Gf.al_ne _) _)]
  have e1 : evL (tr C) y = evL (Gf.locL (othY v W n z)) y := by
    rw [evL_tr]; exact evL_congr h2 y
  unfold ertL
  rw [evL_tr, evL_mul, e1]
  have e2 : Gf.gm (evL (Gf.locL (othY v W n z)) y) (evL (Gf.locL (xsL n z)) y) = 0 ↔ evL (Gf.locL (othY v W n z)) y = 0 ∨ evL (Gf.locL (xsL n z)) y = 0 := by
    constructor
    · intro h
      by_cases h0 : evL (Gf.locL (othY v W n z)) y = 0
      · exact .inl h0
      · exact .inr ((Gf.gm_eq_zero _ _ h0).1 h)
    · rintro (h | h)
      · rw [h, Gf.zero_gm]
      · rw [h, Gf.gm_zero]
  rw [e2, hz, hz, mem_xsL h.hn hp h.ok.1]
  have e3 : Gf.al (n - 1 - p) ∈ othY v W n z ↔ co W p ≠ co v p ∧ (p : Int) ∉ z := by
    have := Gf.mem_oth (xsL n z) (Gf.sumW v W) (by rw [hdl]; exact h.hn) p (by rw [hdl]; exact hp)
    rw [hdl] at this
    unfold othY
    rw [this, sum_ne hvw, mem_xsL h.hn hp h.ok.1]
  rw [e3]
  constructor
  · rintro (⟨h3, h4⟩ | h3)
    · exact .inr (h.all p hp h3 h4)
    · exact .inl h3
  · rintro (h3 | h3)
    · exact .inr h3
    · exact .inl (h.mem p h3).2
/-- without erased places: the evaluator's degree is less than the errata locator's, and it is nothing just if nothing was changed -/
theorem ert_nil (C : List UInt8) (n : Nat) : ertL C n [] = tr C := by
  unfold ertL
  refine (tr_congr fun i => ?_).trans (tr_tr C)
  rw [co_mulL']
  cases i with
  | zero =>
    show (0 : UInt8) ^^^ Gf.gm (co (tr C) 0) (co [1] 0) = _
    rw [show co [1] 0 = 1 from rfl, Gf.gm_one, UInt8.zero_xor]
  | succ i =>
    show Gf.sm _ (i + 1) ^^^ Gf.gm (co (tr C) (i + 1)) (co [1] (i + 1 - (i + 1))) = _
    rw [Nat.sub_self, show co [1] 0 = 1 from rfl, Gf.gm_one, Gf.sm_zero fun j hj => by
      rw [show co (Gf.locL (xsL n [])) (i + 1 - j) = 0 from co_ge (by show 1 ≤ _; omega), Gf.gm_zero], UInt8.zero_xor]
theorem for_nil (s : List UInt8) (n i : Nat) (h : i < 32) : co (forL s (Gf.locL (xsL n []))) i = co s i := by
  rw [co_for _ _ _ (by rw [for_len]; simpa using h), loc_tr, loc_len, co_mulL_comm, co_mulL']
  show Gf.sm (fun j => Gf.gm (co [1] j) (co s (0 + i - j))) (0 + i + 1) = _
  rw [Gf.sm_left, show co [1] 0 = 1 from rfl, Gf.one_gm, Nat.sub_zero, Nat.zero_add, Gf.sm_zero fun j _ => by rw [show co [1] (j + 1) = 0 from co_ge (by simp), Gf.zero_gm], UInt8.xor_zero]
theorem eva_co (s C : List UInt8) (n k : Nat) : co (evaL s C n []) k = if k < 32 then co (mulL s C) k else 0 := by
  unfold evaL
  rw [co_tr, ert_nil]
  have e : ∀ i, co (tr (mulL (tr s) (tr C))) i = co (mulL s C) i := fun i => by
    rw [co_tr]; exact mulL_congr (co_tr s) (co_tr C) i
  rw [co_take]
  by_cases h : k < 32
  · rw [if_pos h]
    split
    · exact e k
    · rename_i h2
      have hlow : lowN 32 (tr (mulL (tr s) (tr C))).length = (if ((tr (mulL (tr s) (tr C))).length : Int) < 32 then (tr (mulL (tr s) (tr C))).length else 32) := by
        unfold lowN; rw [if_neg (by decide)]; rfl
      rw [hlow] at h2
      rw [← e k]
      split at h2
      · exact (co_ge (by omega)).symm
      · omega
  · rw [if_neg h]
    split
    · rename_i h2
      have := lowN_le 32 (tr (mulL (tr s) (tr C))).length
      have hlow : lowN 32 (tr (mulL (tr s) (tr C))).length ≤ 32 := by
        unfold lowN; rw [if_neg (by decide)]; split <;> omega
      omega
    · rfl
theorem eva_deg {s C : List UInt8} {n L : Nat} (h : RF (forL s (Gf.locL (xsL n []))) C L) : (evaL s C n []).length ≤ L := by
  have hl : (forL s (Gf.locL (xsL n []))).length = 32 := for_len s n []
  have hz : ∀ k, L ≤ k → co (evaL s C n []) k = 0 := fun k hk => by
    rw [eva_co]
    split
    · rename_i h32
      have h1 := h.run.run k hk (by rw [hl]; exact h32)
      rw [← h1, co_mulL_comm, co_mulL']
      unfold Gf.dis
      rw [Gf.sm_more (n := L + 1) (m := k + 1) (by omega) (fun j hj => by rw [co_ge (by have := h.len; omega), Gf.zero_gm])]
      exact Gf.sm_congr fun j hj => by rw [for_nil s n _ (by omega)]
    · rfl
  have e : tr (evaL s C n []) = evaL s C n [] := by unfold evaL; exact tr_tr _
  rw [← e, tr_length]
  by_cases hc : tl (evaL s C n []) (evaL s C n []).length ≤ L
  · exact hc
  · exact absurd (hz _ (by omega)) (tl_top (evaL s C n []) (evaL s C n []).length (by omega))
theorem eva_nil {s C : List UInt8} {n L : Nat} (h : RF (forL s (Gf.locL (xsL n []))) C L) : (evaL s C n []).length = 0 ↔ L = 0 := by
  constructor
  · intro h0
    have hl : (forL s (Gf.locL (xsL n []))).length = 32 := for_len s n []
    have hz : ∀ k, k < 32 → co (mulL s C) k = 0 := fun k hk => by
      have := eva_co s C n k
      rw [if_pos hk, co_ge (by omega)] at this
      exact this.symm
    have hs : ∀ k, k < 32 → co s k = 0 := fun k => by
      induction k using Nat.strongRecOn with
      | ind k ih =>
        intro hk
        have h1 := hz k hk
        rw [co_mulL'] at h1
        have h2 : Gf.sm (fun i => Gf.gm (co s i) (co C (k - i))) (k + 1) = Gf.sm (fun i => Gf.gm (co s i) (co C (k - i))) k ^^^ Gf.gm (co s k) (co C (k - k)) := rfl
        rw [h2, Gf.sm_zero (fun i hi => by rw [ih i hi (by omega), Gf.zero_gm]), Nat.sub_self, h.run.one, Gf.gm_one, UInt8.zero_xor] at h1
        exact h1
    exact (zero_reg h fun i hi => by rw [for_nil s n i (by rw [hl] at hi; exact hi), hs i (by rw [hl] at hi; exact hi)]).1
  · intro h0
    have := eva_deg h
    omega
end Go.Proofs.YtomkkkbdipcjgaaDoor
