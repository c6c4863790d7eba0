/- Registers step by step: what is kept of the polynomial, the length, the elder polynomial, its number and how long ago. The code's register: what is off, the mended polynomial. The code's register: the mended polynomial. The code's register: one number more. The code's register: what is told, how it begins, Register. The code's Register. -/
import Derived.Test.YtgifbpjmblemhaaGreatDoorMs
import Derived.Test.YtgifbpjmblemhaaGreatDoorMu
import Derived.Test.YtgifbpjmblemhaaGreatDoorApw
import Derived.BigQuiet
import Derived.StillTailTactics
import Derived.Deep.RegionHeld3
import Derived.BigRegion
import Derived.Laws.EntriesVeiled
namespace Go.Proofs.YtgifbpjmblemhaaGreatDoor
set_option linter.unusedVariables false
namespace Gf
theorem dis_len (s : Nat → UInt8) (C : List UInt8) (L n : Nat) (h : C.length ≤ L + 1) : sm (fun j => gm (co C j) (s (n - j))) C.length = dis s (co C) L n :=
  (sm_more h fun j hj => by rw [co_ge hj, zero_gm]).symm
/-- the polynomial plus the elder one times a number and a power of x -/
def mendL (C B : List UInt8) (a : UInt8) (x : Nat) : List UInt8 := tab (fun j => co C j ^^^ gm a (ps x (co B) j)) (max C.length (x + B.length))
theorem mendL_length (C B : List UInt8) (a : UInt8) (x : Nat) : (mendL C B a x).length = max C.length (x + B.length) := by simp [mendL]
theorem co_mendL (C B : List UInt8) (a : UInt8) (x : Nat) : co (mendL C B a x) = mend (co C) (co B) a x := funext fun j => by
  unfold mendL mend
  refine co_tab' _ _ _ fun i hi => ?_
  unfold ps
  rw [co_ge (by omega)]
  split
  · rw [co_ge (by omega), gm_zero]; rfl
  · rw [gm_zero]; rfl
/-- behind n numbers -/
structure Reg (s : Nat → UInt8) (n : Nat) (C : List UInt8) (L : Nat) (B : List UInt8) (b : UInt8) (x : Nat) : Prop where
  run : Run s n (co C) L
  least : Least s n L
  le : L ≤ n
  len : C.length ≤ L + 1
  bpos : 1 ≤ B.length
  bne : b ≠ 0
  xle : x ≤ n
  blen : x + B.length ≤ n + 1
  old : (L = 0 ∧ x = n ∧ B = [1] ∧ b = 1) ∨ ∃ M m, Run s m (co B) M ∧ B.length ≤ M + 1 ∧ L + M = m + 1 ∧ x + m + 1 = n ∧ dis s (co B) M m = b
theorem Reg.pos {s : Nat → UInt8} {n L x : Nat} {C B : List UInt8} {b : UInt8} (h : Reg s n C L B b x) : 1 ≤ C.length := by
  have := co_lt (ys := C) (i := 0) (by rw [h.run.one]; decide)
  omega
theorem Reg.first (s : Nat → UInt8) : Reg s 0 [1] 0 [1] 1 0 :=
  ⟨Run.first rfl, fun d M k => Nat.zero_le _, Nat.le_refl _, Nat.le_refl _, Nat.le_refl _, by decide, Nat.le_refl _, Nat.le_refl _, .inl ⟨rfl, rfl, rfl, rfl⟩⟩
theorem Reg.same {s : Nat → UInt8} {n L x : Nat} {C B : List UInt8} {b : UInt8} (h : Reg s n C L B b x) (hd : dis s (co C) L n = 0) : Reg s (n + 1) C L B b (x + 1) :=
  ⟨h.run.more fun _ => hd, h.least.more, by have := h.le; omega, h.len, h.bpos, h.bne, by have := h.xle; omega, by have := h.blen; omega, by
    rcases h.old with ⟨h1, h2, h3, h4⟩ | ⟨M, m, h1, h2, h3, h4, h5⟩
    · exact .inl ⟨h1, by omega, h3, h4⟩
    · exact .inr ⟨M, m, h1, h2, h3, by omega, h5⟩⟩
theorem Reg.mended {s : Nat → UInt8} {n L x : Nat} {C B : List UInt8} {b : UInt8} (h : Reg s n C L B b x) (hd : dis s (co C) L n ≠ 0) :
    Run s (n + 1) (co (mendL C B (gd (dis s (co C) L n) b) (x + 1))) (max L (n + 1 - L)) ∧ (mendL C B (gd (dis s (co C) L n) b) (x + 1)).length ≤ max L (n + 1 - L) + 1 := by
  have hl := h.len
  have hb := h.blen
  have hle := h.le
  rw [co_mendL, mendL_length]
  rcases h.old with ⟨h1, h2, h3, h4⟩ | ⟨M, m, h1, h2, h3, h4, h5⟩
  · subst h1
    refine ⟨?_, by omega⟩
    have : max 0 (n + 1 - 0) = n + 1 := by omega
    rw [this]
    refine Run.first ?_
    unfold mend ps
    rw [if_neg (by omega), gm_zero, UInt8.xor_zero, h.run.one]
  · have hx : x + 1 = n - m := by omega
    have hs := Run.step h.run (fun j hj => co_ge (by omega)) h1 (fun j hj => co_ge (by omega)) (by omega) h3 (show gm (gd (dis s (co C) L n) b) (dis s (co B) M m) = dis s (co C) L n by rw [h5]; exact gd_gm _ _ h.bne)
    rw [← hx] at hs
    exact ⟨hs.1, by omega⟩
theorem Reg.longer {s : Nat → UInt8} {n L x : Nat} {C B : List UInt8} {b : UInt8} (h : Reg s n C L B b x) (hd : dis s (co C) L n ≠ 0) (h2 : 2 * L < n + 1) :
    Reg s (n + 1) (mendL C B (gd (dis s (co C) L n) b) (x + 1)) (n + 1 - L) C (dis s (co C) L n) 0 := by
  have hm := h.mended hd
  have hle := h.le
  have hl := h.len
  have e : max L (n + 1 - L) = n + 1 - L := by omega
  have hls := h.least.step h.run hd
  rw [e] at hm hls
  exact ⟨hm.1, hls, by omega, hm.2, h.pos, hd, by omega, by omega, .inr ⟨L, n, h.run, hl, by omega, by omega, rfl⟩⟩
theorem Reg.still {s : Nat → UInt8} {n L x : Nat} {C B : List UInt8} {b : UInt8} (h : Reg s n C L B b x) (hd : dis s (co C) L n ≠ 0) (h2 : ¬ 2 * L < n + 1) :
    Reg s (n + 1) (mendL C B (gd (dis s (co C) L n) b) (x + 1)) L B b (x + 1) := by
  have hm := h.mended hd
  have hls := h.least.step h.run hd
  have hle := h.le
  have e : max L (n + 1 - L) = L := by omega
  rw [e] at hm hls
  refine ⟨hm.1, hls, by omega, hm.2, h.bpos, h.bne, by have := h.xle; omega, by have := h.blen; omega, ?_⟩
  rcases h.old with ⟨h1, _⟩ | ⟨M, m, h1, h2, h3, h4, h5⟩
  · omega
  · exact .inr ⟨M, m, h1, h2, h3, by omega, h5⟩
end Gf
end Go.Proofs.YtgifbpjmblemhaaGreatDoor
namespace Go.Proofs.YtgifbpjmblemhaaGreatDoor
open Go.RowKit
set_option linter.unusedVariables false
set_option linter.unusedSimpArgs false
def offS (C r : List UInt8) (k : Nat) : UInt8 := Gf.sm (fun j => Gf.gm (co C j) (co r (r.length - 1 - j))) k
def OffAt (C r : List UInt8) (w : World) (s iv : Value) (wr : World) : Prop :=
  ∃ k : Nat, k ≤ C.length ∧ iv = .int .i64 k ∧ s = .int .u8 ((offS C r k).toNat : Int) ∧ Kit.Dn w wr
set_option maxRecDepth 100000 in
set_option maxHeartbeats 2000000 in
theorem off_any (b T : Nat) (Ct : Array Value) (C r : List UInt8) (oC oR : Option Addr) (cC cR : Nat) (w : World) (hT : TabAt w T Ct) (hqt : Boxed w b 112 (.pointer (some ⟨T, 0, none⟩)))
    (hqn : Boxed w (b + 2) 24 (.slice oC C.length cC)) (hC : RowIs w oC (bytesV C) cC) (hR : RowIs w oR (bytesV r) cR) (hle : C.length ≤ r.length) :
    Calls Tryz.prog 90 #[.slice oR r.length cR, .pointer (some ⟨b + 2, 0, none⟩), .pointer (some ⟨b, 0, none⟩)] w fun e w' => e = .returned (.int .u8 ((offS C r C.length).toNat : Int)) ∧ Kit.Dn w w' := by
  have h1 := hC.le
  have h2 := hC.cap
  have h3 := hR.le
  have h4 := hR.cap
  simp only [bytesV_length] at h1 h3
  unfold maxLen at h2 h4
  have HT := Lib.hid hT
  have HQT := Lib.hid hqt
  have hcn := hqn.cell
  have HC := Lib.hid hC
  have HR := Lib.hid hR
  clear hT hqt hqn hC hR
  go_enter Tryz.func90, Tryz.ntmps90
  go_wp2_with fail
  clear hcn
  go_loopw [5, 6, 7, 10] (fun s _ _ i wr => OffAt C r w s i wr) (fun _ _ _ i _ => C.length - (intOf i).toNat)
  case atStart => exact ⟨0, Nat.zero_le _, rfl, rfl, Kit.Dn.refl _⟩
  case round =>
    obtain ⟨k, hk, rfl, rfl, hd⟩ := hrel
    have HD := Lib.hid hd
    clear hd
    by_cases hlt : k < C.length
    · obtain ⟨b1, off1, rfl, hb1, hcell⟩ := (HC.out.later HD.out.below).cells (by simp; omega)
      obtain ⟨b2, off2, rfl, hb2, hcell2⟩ := (HR.out.later HD.out.below).cells (by simp; omega)
      have hc1 : wr.cell? ⟨b1, off1 + k, none⟩ = some (.int .u8 ((co C k).toNat : Int)) := hcell k _ (bytesV_get C k hlt)
      obtain ⟨m, hm⟩ : ∃ m, r.length - 1 - k = m := ⟨_, rfl⟩
      have hc2 : wr.cell? ⟨b2, off2 + m, none⟩ = some (.int .u8 ((co r m).toNat : Int)) := hcell2 m _ (bytesV_get r m (by omega))
      have hct := (boxed_later HQT.out HD.out.below).cell
      have HS : Hid (offS C r k ^^^ Gf.gm (co C k) (co r m) = offS C r (k + 1)) := Lib.hid (by rw [← hm]; rfl)
      have hw1 : IntKind.i64.wrap ((r.length : Int) - 1) = (r.length : Int) - 1 := by rw [IntKind.wrap_i64]; omega
      have hw2 : IntKind.i64.wrap ((r.length : Int) - 1 - (k : Int)) = (m : Int) := by rw [IntKind.wrap_i64]; omega
      have hm0 : (0 : Int) ≤ (m : Int) := by omega
      have hm1 : (m : Int) < (r.length : Int) := by omega
      have HM := Lib.hid hm
      generalize offS C r k = s at *
      generalize co C k = x at *
      generalize co r m = y at *
      have hx := UInt8.toNat_lt x
      have hs := UInt8.toNat_lt s
      have hy := UInt8.toNat_lt y
      have MC : Hid (∀ n, Calls Tryz.prog 68 #[.pointer (some ⟨T, 0, none⟩), .int .u8 (x.toNat : Int), .int .u8 (y.toNat : Int)] (wr.drewN n) fun e w' => e = .returned (.int .u8 ((Gf.gm x y).toNat : Int)) ∧ ∃ m, w' = (wr.drewN n).drewN m) := Lib.hid fun n => tmul_dn x y T Ct _ ((HT.out.later HD.out.below).later (Kit.dn' _ _))
      generalize Gf.gm x y = u at *
      have hu := UInt8.toNat_lt u
      have AC : Hid (∀ v : World, Calls Tryz.prog 66 #[.int .u8 (s.toNat : Int), .int .u8 (u.toNat : Int)] v fun e w' => e = .returned (.int .u8 ((s ^^^ u).toNat : Int)) ∧ w' = v) := Lib.hid fun v => add_u8 s u v
      generalize hq : s ^^^ u = q at *
      have HQ := Lib.hid hq
      clear hcell hcell2 hm hq
      go_wp2_with fail
      go_quiet ((first | (go_at_call 68; exact Calls.quiet_of (MC.out _)) | (go_at_call 66; exact Calls.quiet_of_same (AC.out _))))
      go_wp2
      go_roundw
      case rel => exact ⟨k + 1, by omega, by go_num, by rw [← HS.out], HD.out.add _⟩
      case measure => simp [intOf]; omega
    · obtain rfl : k = C.length := by omega
      go_wp2
      go_ret
      exact ⟨rfl, HD.out⟩
end Go.Proofs.YtgifbpjmblemhaaGreatDoor
namespace Go.Proofs.YtgifbpjmblemhaaGreatDoor
open Go.RowKit
set_option linter.unusedVariables false
set_option linter.unusedSimpArgs false
/-- the mended polynomial, as the code writes it -/
theorem mend_mix (C B : List UInt8) (a : UInt8) (x n : Nat) (h1 : C.length ≤ n) (h2 : x + B.length ≤ n) (hn : n = max C.length (x + B.length)) : mix (splice (List.replicate n 0) 0 C) x B a = Gf.mendL C B a x := by
  have hl : (splice (List.replicate n (0 : UInt8)) 0 C).length = n := by rw [length_splice _ _ _ (by simp only [List.length_replicate]; omega)]; simp
  refine list_ext (by rw [mix_length, hl, Gf.mendL_length, hn]) fun i hi => ?_
  rw [mix_length, hl] at hi
  rw [co_mix _ _ _ _ _ (by omega), co_splice _ _ _ _ (by simp only [List.length_replicate]; omega), Gf.co_mendL, zeros_co]
  unfold Gf.mend
  congr 1
  · rw [Nat.sub_zero]
    split
    · rfl
    · exact (co_ge (by omega)).symm
  · unfold Gf.ps
    split
    · rw [Gf.gm_comm]
    · rw [Gf.gm_zero]
section
variable {P : Program} {ops : Array Oper} {Q : Exit → Act → World → Prop} {i : Nat} {o : Oper} {b : Act} {v v' : World} {x : Value} {K : Act → World → Prop}
theorem op_val (ho : ops[i]? = some o) (hg : o.guard = none) (h : (execOp b.eval o).run P v = .ok (.value x) v) (hk : K (b.put o.dst x) v) : wpOp P ops Q i K b v := by
  unfold wpOp
  rw [ho]
  dsimp only
  rw [if_pos (by simp [Region.wanted, hg])]
  refine .inl ?_
  unfold Oper.wp
  rw [h]
  exact hk
theorem op_put {d : Tmp} (ho : ops[i]? = some o) (hd : o.dst = some d) (hg : o.guard = none) (h : (execOp b.eval o).run P v = .ok (.value x) v) (hk : K { b with tmps := b.tmps.setIfInBounds d x } v) : wpOp P ops Q i K b v :=
  op_val ho hg h (by rw [hd]; exact hk)
theorem op_call {d : Tmp} {f : FuncId} {xs : Array Operand} {ts : Array TypeId} {args : Array Value} {R : Value → World → Prop} (ho : ops[i]? = some o) (hd : o.dst = some d) (hg : o.guard = none)
    (hop : o.op = .call { callee := .value (.func f), args := xs, argTypes := ts }) (ek : ∀ args w, (callFunc f args).run P w = .ok (.enter f args) w) (ha : xs.map b.eval = args) (hc : Calls P f args v fun e v' => ∃ x, e = .returned x ∧ R x v') (h : ∀ x v', R x v' → K { b with tmps := b.tmps.setIfInBounds d x } v') : wpOp P ops Q i K b v :=
  Rg.op_fn ho hg hop ek ha hc fun x v' hR => by rw [hd]; exact h x v' hR
theorem takeH {md : Region.Mode} {S : World → Prop} {d : Tmp} {fuel : Nat} {listed : Array Bool} (hi : ops[i]? = some o) (hd : o.dst = some d)
    (hs : Region.noSelect ops = true) (hf : Region.free md ops listed i = true) (hr : (Region.ready md ops listed).contains i = true)
    (hQ : ∀ c a w, Q (.panic c) (a.put o.dst x) w → Q (.panic c) a w) (hy : YieldsIf P ops S o x b) (hS : S v)
    (h : wpAnyH P md ops Q S fuel (listed.setIfInBounds i true) { b with tmps := b.tmps.setIfInBounds d x } v) : wpAnyH P md ops Q S (fuel + 1) listed b v :=
  wpAnyH_take hi hs hf hr hQ hy hS (by rw [hd]; exact h)
theorem op_skip (ho : ops[i]? = some o) (hg : o.guard = none) (hd : o.dst = none) (h : (execOp b.eval o).run P v = .ok .skip v') (hk : K b v') : wpOp P ops Q i K b v := by
  unfold wpOp
  rw [ho]
  dsimp only
  rw [if_pos (by simp [Region.wanted, hg])]
  refine .inl ?_
  unfold Oper.wp
  rw [h]
  show K (b.put o.dst undef) _
  rw [hd]
  exact hk
end
def MeAt (w0 : World) (g n x : Nat) (a : UInt8) (ys B : List UInt8) (i : Value) (wr : World) : Prop :=
  ∃ k : Nat, k ≤ B.length ∧ i = .int .i64 k ∧ Buf wr g n (mix ys x (B.take k) a) ∧ Only g w0 wr
set_option maxRecDepth 100000 in
set_option maxHeartbeats 4000000 in
theorem mended_any (b T : Nat) (Ct : Array Value) (C B : List UInt8) (a : UInt8) (x : Nat) (oC oB : Option Addr) (cC cB : Nat) (w : World) (hT : TabAt w T Ct) (hqt : Boxed w b 112 (.pointer (some ⟨T, 0, none⟩)))
    (hqn : Boxed w (b + 2) 24 (.slice oC C.length cC)) (hqa : Boxed w (b + 7) 3 (.int .i64 (x : Int))) (hqo : Boxed w (b + 5) 24 (.slice oB B.length cB))
    (hC : RowIs w oC (bytesV C) cC) (hB : RowIs w oB (bytesV B) cB) (hx : x ≤ 1000) (hl1 : C.length ≤ 1000) (hl2 : B.length ≤ 1000) :
    Calls Tryz.prog 91 #[.int .u8 (a.toNat : Int), .pointer (some ⟨b + 2, 0, none⟩), .pointer (some ⟨b + 7, 0, none⟩), .pointer (some ⟨b + 5, 0, none⟩), .pointer (some ⟨b, 0, none⟩)] w fun e w' =>
      ∃ g cap, e = .returned (.slice (some ⟨g, 0, none⟩) (Gf.mendL C B a x).length cap) ∧ w.heap.size ≤ g ∧ Below w.heap.size w w' ∧ RowIs w' (some ⟨g, 0, none⟩) (bytesV (Gf.mendL C B a x)) cap := by
  obtain ⟨i0, hi, hz0, hz1, hz2⟩ := info_parts info_u8
  have h1 := hC.le
  have h2 := hC.cap
  have h3 := hB.le
  have h4 := hB.cap
  simp only [bytesV_length] at h1 h3
  unfold maxLen at h2 h4
  have hc0 := hqt.cell
  have hc2 := hqn.cell
  have hc5 := hqo.cell
  have hc7 := hqa.cell
  have hb7 := hqa.lt
  have HT := Lib.hid hT
  have HQT := Lib.hid hqt
  have HQN := Lib.hid hqn
  have HQA := Lib.hid hqa
  have HQO := Lib.hid hqo
  have HC := Lib.hid hC
  have HB := Lib.hid hB
  have hTn : T ≠ w.heap.size := by have := (Array.getElem?_eq_some_iff.1 hT.block).1; omega
  clear hT hqt hqn hqa hqo hC hB
  have HPOS : Hid (∀ w1, Below w.heap.size w w1 → 0 < (bytesV C).length → ∃ ad, oC = some ad ∧ ∀ j v, (bytesV C)[j]? = some v → w1.cell? (ad.add j) = some v) := Lib.hid fun w1 hb h0 => by
    have hr := HC.out.later hb
    obtain ⟨b, off, rfl, _, _⟩ := hr.cells h0
    exact ⟨_, rfl, hr.adds _ rfl⟩
  have hws : IntKind.i64.wrap ((x : Int) + (B.length : Int)) = (x : Int) + (B.length : Int) := by rw [IntKind.wrap_i64]; omega
  obtain ⟨y, hy⟩ : ∃ y, x + B.length = y := ⟨_, rfl⟩
  have hyi : (x : Int) + (B.length : Int) = (y : Int) := by omega
  rw [hyi] at hws
  have HY := Lib.hid hy
  by_cases hcy : C.length < y
  · have hpi : (C.length : Int) < (y : Int) := by omega
    have HN : Hid (y = max C.length (x + B.length)) := Lib.hid (by omega)
    have hn1 : C.length ≤ y := by omega
    have hn2 : x + B.length ≤ y := by omega
    clear hcy hy
    go_enter Tryz.func91, Tryz.ntmps91
    go_wp2_with (at_make; go_loud (refine wpList_make_full _ rfl _ _ 24 rfl 0 5 i0 (.int .u8 0) 1 Tryz.underlying24 hi hz0 hz1 _ _ _ _ y rfl rfl (by omega) (by omega) (by rw [hz2]; omega) (by unfold maxLen; omega) (Nat.zero_le _) ?_))
    intro w1 hown hgrow
    have hb1 : Below w.heap.size w w1 := (Below.refl _ _).grown hgrow (Nat.le_refl _) (fun k h => by cases h)
    have hfull : Full w1 w.heap.size (List.replicate y 0) := (buf_made hown).full (by simp)
    have HB1 := Lib.hid hb1
    have HF1 := Lib.hid hfull
    have hc2b := (boxed_later HQN.out hb1).cell
    clear hown hgrow hb1 hfull
    go_wp2_with (refine wpList_copy_splice rfl (.tmp 18) (.tmp 19) 24 24 rfl 5 Tryz.underlying24 (by rw [hi]; simp [hz1]) _ _ _ _ _ _ rfl rfl w.heap.size 0 (bytesV (List.replicate y 0)) 5 HF1.out (bytesV C) (by simp only [bytesV_length]; exact (Nat.min_eq_left (by omega)).symm) (fun h0 => ⟨rfl, HPOS.out _ HB1.out h0⟩) (by rw [bytesV_length, bytesV_length, List.length_replicate]; omega) (bytesV_one C) w.heap.size w HB1.out (Nat.le_refl _) ?_)
    intro w2 hfull2 hb2
    have hmixl : (splice (List.replicate y (0 : UInt8)) 0 C).length = y := by rw [length_splice _ _ _ (by simp only [List.length_replicate]; omega)]; simp
    have hbuf : Buf w2 w.heap.size y (splice (List.replicate y 0) 0 C) := by
      have h : Full w2 w.heap.size (splice (List.replicate y 0) 0 C) := by unfold Full; rw [← splice_bytes]; exact hfull2
      have := h.buf (by rw [hmixl]; unfold maxLen; omega)
      rw [hmixl] at this
      exact this
    have HMM := Lib.hid (mend_mix C B a x y hn1 hn2 HN.out)
    obtain ⟨ys, hys⟩ : ∃ ys, splice (List.replicate y (0 : UInt8)) 0 C = ys := ⟨_, rfl⟩
    rw [hys] at hbuf hmixl HMM
    have HAP := Lib.hid (HB.out.apart (g := w.heap.size) (Nat.le_refl _))
    have HBUF := Lib.hid hbuf
    have HB2 := Lib.hid hb2
    have hc5b := (boxed_later HQO.out hb2).cell
    have HC0 := Lib.hid (boxed_later HQT.out hb2)
    have HC7 := Lib.hid (boxed_later HQA.out hb2)
    have HT2 := Lib.hid (HT.out.later hb2)
    have HR2 := Lib.hid (HB.out.later hb2)
    clear hfull2 hb2 hbuf hys hc0 hc2 hc5 hc7
    go_wp2_with fail
    clear hc2b hc5b
    go_loopw [8, 9, 23] (fun _ _ i wr => MeAt w2 w.heap.size y x a ys B i wr) (fun _ _ i _ => B.length - (intOf i).toNat)
    case atStart => exact ⟨0, Nat.zero_le _, rfl, by rw [mix_zero]; exact HBUF.out, Only.refl _ _⟩
    case round =>
      obtain ⟨k, hk, rfl, hb, ho⟩ := hrel
      by_cases hlt : k < B.length
      · obtain ⟨b1, off1, rfl, hb1, hcell⟩ := (ho.row HR2.out HAP.out).cells (by simp; omega)
        have hc1 : wr.cell? ⟨b1, off1 + k, none⟩ = some (.int .u8 ((co B k).toNat : Int)) := hcell k _ (bytesV_get B k hlt)
        have hq7 : Boxed wr (b + 7) 3 (.int .i64 (x : Int)) := HC7.out.kept ho (by simp; omega)
        have hq0 : Boxed wr b 112 (.pointer (some ⟨T, 0, none⟩)) := HC0.out.kept ho (by simp; omega)
        obtain ⟨m, hm⟩ : ∃ m, x + k = m := ⟨_, rfl⟩
        have hs2 := hb.cell (x + k) (by simp; omega)
        have hf2 := hb.frozen (x + k)
        have HMX := Lib.hid (mix_step ys x B a k hlt (by omega))
        have hst := fun (v : World) (hv : Kit.Dn wr v) => (hb.later hv.below).store (x + k) (co (mix ys x (B.take k) a) (x + k) ^^^ Gf.gm (co B k) a)
        rw [HMX.out] at hst
        have hwm : IntKind.i64.wrap ((x : Int) + (k : Int)) = (m : Int) := by rw [IntKind.wrap_i64]; omega
        rw [hm] at hs2 hf2 hst
        have HTW := Lib.hid (ho.tab HT2.out hTn)
        have MC : Hid (∀ v : World, TabAt v T Ct → Calls Tryz.prog 68 #[.pointer (some ⟨T, 0, none⟩), .int .u8 ((co B k).toNat : Int), .int .u8 (a.toNat : Int)] v fun e w' => e = .returned (.int .u8 ((Gf.gm (co B k) a).toNat : Int)) ∧ ∃ m, w' = v.drewN m) := Lib.hid fun v hv => tmul_dn (co B k) a T Ct v hv
        generalize co (mix ys x (B.take k) a) m = s at *
        generalize Gf.gm (co B k) a = u at *
        generalize co B k = z at *
        have hzl := UInt8.toNat_lt z
        have hsl := UInt8.toNat_lt s
        have hal := UInt8.toNat_lt a
        have hul := UInt8.toNat_lt u
        have AC : Hid (∀ v : World, Calls Tryz.prog 66 #[.int .u8 (s.toNat : Int), .int .u8 (u.toNat : Int)] v fun e w' => e = .returned (.int .u8 ((s ^^^ u).toNat : Int)) ∧ w' = v) := Lib.hid fun v => add_u8 s u v
        generalize s ^^^ u = r at *
        have hca := hq7.cell
        have hct := hq0.cell
        have HK : Hid (∀ v, Kit.Dn wr v → v.cell? ⟨b + 7, 0, none⟩ = some (.int .i64 (x : Int)) ∧ v.cell? ⟨b, 0, none⟩ = some (.pointer (some ⟨T, 0, none⟩))) := Lib.hid fun v hv => ⟨(boxed_later hq7 hv.below).cell, (boxed_later hq0 hv.below).cell⟩
        have HK2 : Hid (∀ v, Kit.Dn wr v → (v.setCell ⟨w.heap.size, m, none⟩ (.int .u8 (r.toNat : Int))).cell? ⟨b + 7, 0, none⟩ = some (.int .i64 (x : Int)) ∧ (v.setCell ⟨w.heap.size, m, none⟩ (.int .u8 (r.toNat : Int))).cell? ⟨b, 0, none⟩ = some (.pointer (some ⟨T, 0, none⟩))) := Lib.hid fun v hv => ⟨((boxed_later hq7 hv.below).kept (hst v hv).2 (by simp; omega)).cell, ((boxed_later hq0 hv.below).kept (hst v hv).2 (by simp; omega)).cell⟩
        have HS := Lib.hid hst
        have HO := Lib.hid ho
        have hm0 : (0 : Int) ≤ (m : Int) := by omega
        have hm1 : (m : Int) < (y : Nat) := by omega
        have HM := Lib.hid hm
        clear hcell hb ho hst HMX hm hq7 hq0
        go_wp2_with fail
        have HCE : Hid (wr.cell? ⟨w.heap.size, m, none⟩ = some (.int .u8 (s.toNat : Int))) := Lib.hid hs2
        have HFR : Hid (wr.frozen? ⟨w.heap.size, m, none⟩ = false) := Lib.hid hf2
        refine wp_region_noPanic ?_
        refine wp_region_held_drew (S := (fun w' => w'.cell? ⟨b + 7, 0, none⟩ = some (.int .i64 (x : Int)) ∧ w'.cell? ⟨b, 0, none⟩ = some (.pointer (some ⟨T, 0, none⟩)))) (by kernel_rfl) (HK.out _ ⟨1, rfl⟩) (fun hHeld => ?_)
        clear hs2 hf2 hc1
        refine takeH (i := 0) (x := .slice (some ⟨w.heap.size, 0, none⟩) y y) rfl rfl (by kernel_rfl) (by kernel_rfl) (by kernel_rfl) (fun _ _ _ h => h) (Or.inl ⟨by rfl, fun w hSw => by (try dsimp only at hSw); obtain ⟨hs7, hs0⟩ := hSw; (go_simp <;> with_reducible rfl)⟩) (by assumption) ?_
        simp only [List.setIfInBounds_toArray, List.set_cons_zero, List.set_cons_succ]
        refine takeH (i := 1) (x := .int .i64 (x : Int)) rfl rfl (by kernel_rfl) (by kernel_rfl) (by kernel_rfl) (fun _ _ _ h => h) (Or.inl ⟨by rfl, fun w hSw => by (try dsimp only at hSw); obtain ⟨hs7, hs0⟩ := hSw; (go_simp <;> with_reducible rfl)⟩) (by assumption) ?_
        simp only [List.setIfInBounds_toArray, List.set_cons_zero, List.set_cons_succ]
        refine takeH (i := 2) (x := .int .i64 (k : Int)) rfl rfl (by kernel_rfl) (by kernel_rfl) (by kernel_rfl) (fun _ _ _ h => h) (Or.inl ⟨by rfl, fun w hSw => by (try dsimp only at hSw); obtain ⟨hs7, hs0⟩ := hSw; (go_simp <;> with_reducible rfl)⟩) (by assumption) ?_
        simp only [List.setIfInBounds_toArray, List.set_cons_zero, List.set_cons_succ]
        refine takeH (i := 3) (x := .int .i64 (m : Int)) rfl rfl (by kernel_rfl) (by kernel_rfl) (by kernel_rfl) (fun _ _ _ h => h) (Or.inl ⟨by rfl, fun w hSw => by (try dsimp only at hSw); obtain ⟨hs7, hs0⟩ := hSw; (go_simp <;> with_reducible rfl)⟩) (by assumption) ?_
        simp only [List.setIfInBounds_toArray, List.set_cons_zero, List.set_cons_succ]
        refine takeH (i := 4) (x := .slice (some ⟨w.heap.size, 0, none⟩) y y) rfl rfl (by kernel_rfl) (by kernel_rfl) (by kernel_rfl) (fun _ _ _ h => h) (Or.inl ⟨by rfl, fun w hSw => by (try dsimp only at hSw); obtain ⟨hs7, hs0⟩ := hSw; (go_simp <;> with_reducible rfl)⟩) (by assumption) ?_
        simp only [List.setIfInBounds_toArray, List.set_cons_zero, List.set_cons_succ]
        refine takeH (i := 5) (x := .int .i64 (x : Int)) rfl rfl (by kernel_rfl) (by kernel_rfl) (by kernel_rfl) (fun _ _ _ h => h) (Or.inl ⟨by rfl, fun w hSw => by (try dsimp only at hSw); obtain ⟨hs7, hs0⟩ := hSw; (go_simp <;> with_reducible rfl)⟩) (by assumption) ?_
        simp only [List.setIfInBounds_toArray, List.set_cons_zero, List.set_cons_succ]
        refine takeH (i := 6) (x := .int .i64 (k : Int)) rfl rfl (by kernel_rfl) (by kernel_rfl) (by kernel_rfl) (fun _ _ _ h => h) (Or.inl ⟨by rfl, fun w hSw => by (try dsimp only at hSw); obtain ⟨hs7, hs0⟩ := hSw; (go_simp <;> with_reducible rfl)⟩) (by assumption) ?_
        simp only [List.setIfInBounds_toArray, List.set_cons_zero, List.set_cons_succ]
        refine takeH (i := 7) (x := .int .i64 (m : Int)) rfl rfl (by kernel_rfl) (by kernel_rfl) (by kernel_rfl) (fun _ _ _ h => h) (Or.inl ⟨by rfl, fun w hSw => by (try dsimp only at hSw); obtain ⟨hs7, hs0⟩ := hSw; (go_simp <;> with_reducible rfl)⟩) (by assumption) ?_
        simp only [List.setIfInBounds_toArray, List.set_cons_zero, List.set_cons_succ]
        refine takeH (i := 8) (x := .pointer (some ⟨w.heap.size, m, none⟩)) rfl rfl (by kernel_rfl) (by kernel_rfl) (by kernel_rfl) (fun _ _ _ h => h) (Or.inl ⟨by rfl, fun w hSw => by (try dsimp only at hSw); obtain ⟨hs7, hs0⟩ := hSw; (go_simp <;> with_reducible rfl)⟩) (by assumption) ?_
        simp only [List.setIfInBounds_toArray, List.set_cons_zero, List.set_cons_succ]
        refine takeH (i := 10) (x := .pointer (some ⟨T, 0, none⟩)) rfl rfl (by kernel_rfl) (by kernel_rfl) (by kernel_rfl) (fun _ _ _ h => h) (Or.inl ⟨by rfl, fun w hSw => by (try dsimp only at hSw); obtain ⟨hs7, hs0⟩ := hSw; (go_simp <;> with_reducible rfl)⟩) (by assumption) ?_
        simp only [List.setIfInBounds_toArray, List.set_cons_zero, List.set_cons_succ]
        refine takeH (i := 11) (x := .int .u8 (z.toNat : Int)) rfl rfl (by kernel_rfl) (by kernel_rfl) (by kernel_rfl) (fun _ _ _ h => h) (Or.inl ⟨by rfl, fun w hSw => by (try dsimp only at hSw); obtain ⟨hs7, hs0⟩ := hSw; (go_simp <;> with_reducible rfl)⟩) (by assumption) ?_
        simp only [List.setIfInBounds_toArray, List.set_cons_zero, List.set_cons_succ]
        refine takeH (i := 12) (x := .int .u8 (a.toNat : Int)) rfl rfl (by kernel_rfl) (by kernel_rfl) (by kernel_rfl) (fun _ _ _ h => h) (Or.inl ⟨by rfl, fun w hSw => by (try dsimp only at hSw); obtain ⟨hs7, hs0⟩ := hSw; (go_simp <;> with_reducible rfl)⟩) (by assumption) ?_
        simp only [List.setIfInBounds_toArray, List.set_cons_zero, List.set_cons_succ]
        refine wpAnyH_all (rs := [9, 13]) (by kernel_rfl) (by simp) (List.forall_mem_cons.2 ⟨?_, List.forall_mem_cons.2 ⟨?_, fun _ h => absurd h List.not_mem_nil⟩⟩)
        · refine op_put (x := .int .u8 (s.toNat : Int)) rfl rfl rfl ?hx1 ⟨hHeld, ?_⟩
          case hx1 =>
            have hcl := HCE.out
            have hcl2 : World.cell? (World.drew wr) ⟨w.heap.size, m, none⟩ = some (.int .u8 (s.toNat : Int)) := HCE.out
            simp only [execOp]
            (go_simp <;> with_reducible rfl)
          simp only [List.setIfInBounds_toArray, List.set_cons_zero, List.set_cons_succ]
          refine wpAnyH_all (rs := [13]) (by kernel_rfl) (by simp) (List.forall_mem_cons.2 ⟨?_, fun _ h => absurd h List.not_mem_nil⟩)
          refine op_call rfl rfl rfl rfl (enters_of Tryz.func68 (by kernel_rfl) rfl) (args := #[.pointer (some ⟨T, 0, none⟩), .int .u8 (z.toNat : Int), .int .u8 (a.toNat : Int)]) (by simp [Act.eval]) (R := fun y v => y = .int .u8 (u.toNat : Int) ∧ ∃ n, v = (World.drew wr).drewN n) ?hc5 (fun y v hR => ?_)
          case hc5 => exact (MC.out (World.drew wr) (HTW.out.later (Kit.dn' wr 1))).mono (by rintro e w' ⟨rfl, n', rfl⟩; exact ⟨_, rfl, rfl, n', rfl⟩)
          obtain ⟨rfl, n', rfl⟩ := hR
          replace hHeld := HK.out _ (Kit.Dn.add (⟨1, rfl⟩ : Kit.Dn wr (World.drew wr)) n')
          refine ⟨hHeld, ?_⟩
          simp only [List.setIfInBounds_toArray, List.set_cons_zero, List.set_cons_succ]
          refine wpAnyH_all (rs := [14]) (by kernel_rfl) (by simp) (List.forall_mem_cons.2 ⟨?_, fun _ h => absurd h List.not_mem_nil⟩)
          refine op_call rfl rfl rfl rfl (enters_of Tryz.func66 (by kernel_rfl) rfl) (args := #[.int .u8 (s.toNat : Int), .int .u8 (u.toNat : Int)]) (by simp [Act.eval]) (R := fun y v => y = .int .u8 (r.toNat : Int) ∧ v = (World.drew wr).drewN n') ?hc6 (fun y v hR => ?_)
          case hc6 => exact (AC.out _).mono (by rintro e w' ⟨rfl, rfl⟩; exact ⟨_, rfl, rfl, rfl⟩)
          obtain ⟨rfl, rfl⟩ := hR
          refine ⟨hHeld, ?_⟩
          simp only [List.setIfInBounds_toArray, List.set_cons_zero, List.set_cons_succ]
          refine takeH (i := 15) (x := .pointer (some ⟨w.heap.size, m, none⟩)) rfl rfl (by kernel_rfl) (by kernel_rfl) (by kernel_rfl) (fun _ _ _ h => h) (Or.inl ⟨by rfl, fun w hSw => by (try dsimp only at hSw); obtain ⟨hs7, hs0⟩ := hSw; (go_simp <;> with_reducible rfl)⟩) (by assumption) ?_
          simp only [List.setIfInBounds_toArray, List.set_cons_zero, List.set_cons_succ]
          refine wpAnyH_all (rs := [16]) (by kernel_rfl) (by simp) (List.forall_mem_cons.2 ⟨?_, fun _ h => absurd h List.not_mem_nil⟩)
          have hst := HK2.out _ (Kit.Dn.add (⟨1, rfl⟩ : Kit.Dn wr (World.drew wr)) n')
          refine op_skip (v' := ((World.drew wr).drewN n').setCell ⟨w.heap.size, m, none⟩ (.int .u8 (r.toNat : Int))) rfl rfl rfl ?hx2 ⟨hst, ?_⟩
          case hx2 =>
            have hcl := HCE.out
            have hfl := HFR.out
            simp only [execOp]
            (go_simp <;> with_reducible rfl)
          refine wpAnyH_done (by kernel_rfl) ?_ _
          refine NoPanic.normal ?_
          go_wp2_with fail
          go_roundw
          case rel => exact ⟨k + 1, by omega, by go_num, (HS.out _ ⟨1 + n', rfl⟩).1, HO.out.trans ((Only.of_below (Kit.dn' wr (1 + n'))).trans (HS.out _ ⟨1 + n', rfl⟩).2)⟩
          case measure => simp [intOf]; omega
        · refine op_call rfl rfl rfl rfl (enters_of Tryz.func68 (by kernel_rfl) rfl) (args := #[.pointer (some ⟨T, 0, none⟩), .int .u8 (z.toNat : Int), .int .u8 (a.toNat : Int)]) (by simp [Act.eval]) (R := fun y v => y = .int .u8 (u.toNat : Int) ∧ ∃ n, v = (World.drew wr).drewN n) ?hc7 (fun y v hR => ?_)
          case hc7 => exact (MC.out (World.drew wr) (HTW.out.later (Kit.dn' wr 1))).mono (by rintro e w' ⟨rfl, n', rfl⟩; exact ⟨_, rfl, rfl, n', rfl⟩)
          obtain ⟨rfl, n', rfl⟩ := hR
          replace hHeld := HK.out _ (Kit.Dn.add (⟨1, rfl⟩ : Kit.Dn wr (World.drew wr)) n')
          refine ⟨hHeld, ?_⟩
          simp only [List.setIfInBounds_toArray, List.set_cons_zero, List.set_cons_succ]
          refine wpAnyH_all (rs := [9]) (by kernel_rfl) (by simp) (List.forall_mem_cons.2 ⟨?_, fun _ h => absurd h List.not_mem_nil⟩)
          refine op_put (x := .int .u8 (s.toNat : Int)) rfl rfl rfl ?hx3 ⟨hHeld, ?_⟩
          case hx3 =>
            have hcl := HCE.out
            have hcl2 : World.cell? ((World.drew wr).drewN n') ⟨w.heap.size, m, none⟩ = some (.int .u8 (s.toNat : Int)) := HCE.out
            simp only [execOp]
            (go_simp <;> with_reducible rfl)
          simp only [List.setIfInBounds_toArray, List.set_cons_zero, List.set_cons_succ]
          refine wpAnyH_all (rs := [14]) (by kernel_rfl) (by simp) (List.forall_mem_cons.2 ⟨?_, fun _ h => absurd h List.not_mem_nil⟩)
          refine op_call rfl rfl rfl rfl (enters_of Tryz.func66 (by kernel_rfl) rfl) (args := #[.int .u8 (s.toNat : Int), .int .u8 (u.toNat : Int)]) (by simp [Act.eval]) (R := fun y v => y = .int .u8 (r.toNat : Int) ∧ v = (World.drew wr).drewN n') ?hc8 (fun y v hR => ?_)
          case hc8 => exact (AC.out _).mono (by rintro e w' ⟨rfl, rfl⟩; exact ⟨_, rfl, rfl, rfl⟩)
          obtain ⟨rfl, rfl⟩ := hR
          refine ⟨hHeld, ?_⟩
          simp only [List.setIfInBounds_toArray, List.set_cons_zero, List.set_cons_succ]
          refine takeH (i := 15) (x := .pointer (some ⟨w.heap.size, m, none⟩)) rfl rfl (by kernel_rfl) (by kernel_rfl) (by kernel_rfl) (fun _ _ _ h => h) (Or.inl ⟨by rfl, fun w hSw => by (try dsimp only at hSw); obtain ⟨hs7, hs0⟩ := hSw; (go_simp <;> with_reducible rfl)⟩) (by assumption) ?_
          simp only [List.setIfInBounds_toArray, List.set_cons_zero, List.set_cons_succ]
          refine wpAnyH_all (rs := [16]) (by kernel_rfl) (by simp) (List.forall_mem_cons.2 ⟨?_, fun _ h => absurd h List.not_mem_nil⟩)
          have hst := HK2.out _ (Kit.Dn.add (⟨1, rfl⟩ : Kit.Dn wr (World.drew wr)) n')
          refine op_skip (v' := ((World.drew wr).drewN n').setCell ⟨w.heap.size, m, none⟩ (.int .u8 (r.toNat : Int))) rfl rfl rfl ?hx4 ⟨hst, ?_⟩
          case hx4 =>
            have hcl := HCE.out
            have hfl := HFR.out
            simp only [execOp]
            (go_simp <;> with_reducible rfl)
          refine wpAnyH_done (by kernel_rfl) ?_ _
          refine NoPanic.normal ?_
          go_wp2_with fail
          go_roundw
          case rel => exact ⟨k + 1, by omega, by go_num, (HS.out _ ⟨1 + n', rfl⟩).1, HO.out.trans ((Only.of_below (Kit.dn' wr (1 + n'))).trans (HS.out _ ⟨1 + n', rfl⟩).2)⟩
          case measure => simp [intOf]; omega
      · obtain rfl : k = B.length := by omega
        have hall : B.take B.length = B := List.take_length
        rw [hall, HMM.out] at hb
        have hml := hb.le
        have HR : Hid (RowIs wr (some ⟨w.heap.size, 0, none⟩) (bytesV (Gf.mendL C B a x)) y) := Lib.hid hb.row
        have HL : Hid (y = (Gf.mendL C B a x).length) := Lib.hid (by rw [Gf.mendL_length]; exact HN.out)
        have HBW : Hid (Below w.heap.size w wr) := Lib.hid (HB2.out.trans (ho.below (Nat.le_refl _) HB2.out.size))
        clear hall hb ho
        go_wp2_with fail
        go_ret
        exact ⟨w.heap.size, y, by rw [← HL.out]; rfl, Nat.le_refl _, HBW.out, HR.out⟩
  · have hpi : ¬ (C.length : Int) < (y : Int) := by omega
    have HN : Hid (C.length = max C.length (x + B.length)) := Lib.hid (by omega)
    have hn1 : C.length ≤ C.length := by omega
    have hn2 : x + B.length ≤ C.length := by omega
    clear hcy hy
    go_enter Tryz.func91, Tryz.ntmps91
    go_wp2_with (at_make; go_loud (refine wpList_make_full _ rfl _ _ 24 rfl 0 5 i0 (.int .u8 0) 1 Tryz.underlying24 hi hz0 hz1 _ _ _ _ C.length rfl rfl (by omega) (by omega) (by rw [hz2]; omega) (by unfold maxLen; omega) (Nat.zero_le _) ?_))
    intro w1 hown hgrow
    have hb1 : Below w.heap.size w w1 := (Below.refl _ _).grown hgrow (Nat.le_refl _) (fun k h => by cases h)
    have hfull : Full w1 w.heap.size (List.replicate C.length 0) := (buf_made hown).full (by simp)
    have HB1 := Lib.hid hb1
    have HF1 := Lib.hid hfull
    have hc2b := (boxed_later HQN.out hb1).cell
    clear hown hgrow hb1 hfull
    go_wp2_with (refine wpList_copy_splice rfl (.tmp 18) (.tmp 19) 24 24 rfl 5 Tryz.underlying24 (by rw [hi]; simp [hz1]) _ _ _ _ _ _ rfl rfl w.heap.size 0 (bytesV (List.replicate C.length 0)) 5 HF1.out (bytesV C) (by simp only [bytesV_length]; exact (Nat.min_eq_left (by omega)).symm) (fun h0 => ⟨rfl, HPOS.out _ HB1.out h0⟩) (by rw [bytesV_length, bytesV_length, List.length_replicate]; omega) (bytesV_one C) w.heap.size w HB1.out (Nat.le_refl _) ?_)
    intro w2 hfull2 hb2
    have hmixl : (splice (List.replicate C.length (0 : UInt8)) 0 C).length = C.length := by rw [length_splice _ _ _ (by simp only [List.length_replicate]; omega)]; simp
    have hbuf : Buf w2 w.heap.size C.length (splice (List.replicate C.length 0) 0 C) := by
      have h : Full w2 w.heap.size (splice (List.replicate C.length 0) 0 C) := by unfold Full; rw [← splice_bytes]; exact hfull2
      have := h.buf (by rw [hmixl]; unfold maxLen; omega)
      rw [hmixl] at this
      exact this
    have HMM := Lib.hid (mend_mix C B a x C.length hn1 hn2 HN.out)
    obtain ⟨ys, hys⟩ : ∃ ys, splice (List.replicate C.length (0 : UInt8)) 0 C = ys := ⟨_, rfl⟩
    rw [hys] at hbuf hmixl HMM
    have HAP := Lib.hid (HB.out.apart (g := w.heap.size) (Nat.le_refl _))
    have HBUF := Lib.hid hbuf
    have HB2 := Lib.hid hb2
    have hc5b := (boxed_later HQO.out hb2).cell
    have HC0 := Lib.hid (boxed_later HQT.out hb2)
    have HC7 := Lib.hid (boxed_later HQA.out hb2)
    have HT2 := Lib.hid (HT.out.later hb2)
    have HR2 := Lib.hid (HB.out.later hb2)
    clear hfull2 hb2 hbuf hys hc0 hc2 hc5 hc7
    go_wp2_with fail
    clear hc2b hc5b
    go_loopw [8, 9, 23] (fun _ _ i wr => MeAt w2 w.heap.size C.length x a ys B i wr) (fun _ _ i _ => B.length - (intOf i).toNat)
    case atStart => exact ⟨0, Nat.zero_le _, rfl, by rw [mix_zero]; exact HBUF.out, Only.refl _ _⟩
    case round =>
      obtain ⟨k, hk, rfl, hb, ho⟩ := hrel
      by_cases hlt : k < B.length
      · obtain ⟨b1, off1, rfl, hb1, hcell⟩ := (ho.row HR2.out HAP.out).cells (by simp; omega)
        have hc1 : wr.cell? ⟨b1, off1 + k, none⟩ = some (.int .u8 ((co B k).toNat : Int)) := hcell k _ (bytesV_get B k hlt)
        have hq7 : Boxed wr (b + 7) 3 (.int .i64 (x : Int)) := HC7.out.kept ho (by simp; omega)
        have hq0 : Boxed wr b 112 (.pointer (some ⟨T, 0, none⟩)) := HC0.out.kept ho (by simp; omega)
        obtain ⟨m, hm⟩ : ∃ m, x + k = m := ⟨_, rfl⟩
        have hs2 := hb.cell (x + k) (by simp; omega)
        have hf2 := hb.frozen (x + k)
        have HMX := Lib.hid (mix_step ys x B a k hlt (by omega))
        have hst := fun (v : World) (hv : Kit.Dn wr v) => (hb.later hv.below).store (x + k) (co (mix ys x (B.take k) a) (x + k) ^^^ Gf.gm (co B k) a)
        rw [HMX.out] at hst
        have hwm : IntKind.i64.wrap ((x : Int) + (k : Int)) = (m : Int) := by rw [IntKind.wrap_i64]; omega
        rw [hm] at hs2 hf2 hst
        have HTW := Lib.hid (ho.tab HT2.out hTn)
        have MC : Hid (∀ v : World, TabAt v T Ct → Calls Tryz.prog 68 #[.pointer (some ⟨T, 0, none⟩), .int .u8 ((co B k).toNat : Int), .int .u8 (a.toNat : Int)] v fun e w' => e = .returned (.int .u8 ((Gf.gm (co B k) a).toNat : Int)) ∧ ∃ m, w' = v.drewN m) := Lib.hid fun v hv => tmul_dn (co B k) a T Ct v hv
        generalize co (mix ys x (B.take k) a) m = s at *
        generalize Gf.gm (co B k) a = u at *
        generalize co B k = z at *
        have hzl := UInt8.toNat_lt z
        have hsl := UInt8.toNat_lt s
        have hal := UInt8.toNat_lt a
        have hul := UInt8.toNat_lt u
        have AC : Hid (∀ v : World, Calls Tryz.prog 66 #[.int .u8 (s.toNat : Int), .int .u8 (u.toNat : Int)] v fun e w' => e = .returned (.int .u8 ((s ^^^ u).toNat : Int)) ∧ w' = v) := Lib.hid fun v => add_u8 s u v
        generalize s ^^^ u = r at *
        have hca := hq7.cell
        have hct := hq0.cell
        have HK : Hid (∀ v, Kit.Dn wr v → v.cell? ⟨b + 7, 0, none⟩ = some (.int .i64 (x : Int)) ∧ v.cell? ⟨b, 0, none⟩ = some (.pointer (some ⟨T, 0, none⟩))) := Lib.hid fun v hv => ⟨(boxed_later hq7 hv.below).cell, (boxed_later hq0 hv.below).cell⟩
        have HK2 : Hid (∀ v, Kit.Dn wr v → (v.setCell ⟨w.heap.size, m, none⟩ (.int .u8 (r.toNat : Int))).cell? ⟨b + 7, 0, none⟩ = some (.int .i64 (x : Int)) ∧ (v.setCell ⟨w.heap.size, m, none⟩ (.int .u8 (r.toNat : Int))).cell? ⟨b, 0, none⟩ = some (.pointer (some ⟨T, 0, none⟩))) := Lib.hid fun v hv => ⟨((boxed_later hq7 hv.below).kept (hst v hv).2 (by simp; omega)).cell, ((boxed_later hq0 hv.below).kept (hst v hv).2 (by simp; omega)).cell⟩
        have HS := Lib.hid hst
        have HO := Lib.hid ho
        have hm0 : (0 : Int) ≤ (m : Int) := by omega
        have hm1 : (m : Int) < (C.length : Nat) := by omega
        have HM := Lib.hid hm
        clear hcell hb ho hst HMX hm hq7 hq0
        go_wp2_with fail
        have HCE : Hid (wr.cell? ⟨w.heap.size, m, none⟩ = some (.int .u8 (s.toNat : Int))) := Lib.hid hs2
        have HFR : Hid (wr.frozen? ⟨w.heap.size, m, none⟩ = false) := Lib.hid hf2
        refine wp_region_noPanic ?_
        refine wp_region_held_drew (S := (fun w' => w'.cell? ⟨b + 7, 0, none⟩ = some (.int .i64 (x : Int)) ∧ w'.cell? ⟨b, 0, none⟩ = some (.pointer (some ⟨T, 0, none⟩)))) (by kernel_rfl) (HK.out _ ⟨1, rfl⟩) (fun hHeld => ?_)
        clear hs2 hf2 hc1
        refine takeH (i := 0) (x := .slice (some ⟨w.heap.size, 0, none⟩) C.length C.length) rfl rfl (by kernel_rfl) (by kernel_rfl) (by kernel_rfl) (fun _ _ _ h => h) (Or.inl ⟨by rfl, fun w hSw => by (try dsimp only at hSw); obtain ⟨hs7, hs0⟩ := hSw; (go_simp <;> with_reducible rfl)⟩) (by assumption) ?_
        simp only [List.setIfInBounds_toArray, List.set_cons_zero, List.set_cons_succ]
        refine takeH (i := 1) (x := .int .i64 (x : Int)) rfl rfl (by kernel_rfl) (by kernel_rfl) (by kernel_rfl) (fun _ _ _ h => h) (Or.inl ⟨by rfl, fun w hSw => by (try dsimp only at hSw); obtain ⟨hs7, hs0⟩ := hSw; (go_simp <;> with_reducible rfl)⟩) (by assumption) ?_
        simp only [List.setIfInBounds_toArray, List.set_cons_zero, List.set_cons_succ]
        refine takeH (i := 2) (x := .int .i64 (k : Int)) rfl rfl (by kernel_rfl) (by kernel_rfl) (by kernel_rfl) (fun _ _ _ h => h) (Or.inl ⟨by rfl, fun w hSw => by (try dsimp only at hSw); obtain ⟨hs7, hs0⟩ := hSw; (go_simp <;> with_reducible rfl)⟩) (by assumption) ?_
        simp only [List.setIfInBounds_toArray, List.set_cons_zero, List.set_cons_succ]
        refine takeH (i := 3) (x := .int .i64 (m : Int)) rfl rfl (by kernel_rfl) (by kernel_rfl) (by kernel_rfl) (fun _ _ _ h => h) (Or.inl ⟨by rfl, fun w hSw => by (try dsimp only at hSw); obtain ⟨hs7, hs0⟩ := hSw; (go_simp <;> with_reducible rfl)⟩) (by assumption) ?_
        simp only [List.setIfInBounds_toArray, List.set_cons_zero, List.set_cons_succ]
        refine takeH (i := 4) (x := .slice (some ⟨w.heap.size, 0, none⟩) C.length C.length) rfl rfl (by kernel_rfl) (by kernel_rfl) (by kernel_rfl) (fun _ _ _ h => h) (Or.inl ⟨by rfl, fun w hSw => by (try dsimp only at hSw); obtain ⟨hs7, hs0⟩ := hSw; (go_simp <;> with_reducible rfl)⟩) (by assumption) ?_
        simp only [List.setIfInBounds_toArray, List.set_cons_zero, List.set_cons_succ]
        refine takeH (i := 5) (x := .int .i64 (x : Int)) rfl rfl (by kernel_rfl) (by kernel_rfl) (by kernel_rfl) (fun _ _ _ h => h) (Or.inl ⟨by rfl, fun w hSw => by (try dsimp only at hSw); obtain ⟨hs7, hs0⟩ := hSw; (go_simp <;> with_reducible rfl)⟩) (by assumption) ?_
        simp only [List.setIfInBounds_toArray, List.set_cons_zero, List.set_cons_succ]
        refine takeH (i := 6) (x := .int .i64 (k : Int)) rfl rfl (by kernel_rfl) (by kernel_rfl) (by kernel_rfl) (fun _ _ _ h => h) (Or.inl ⟨by rfl, fun w hSw => by (try dsimp only at hSw); obtain ⟨hs7, hs0⟩ := hSw; (go_simp <;> with_reducible rfl)⟩) (by assumption) ?_
        simp only [List.setIfInBounds_toArray, List.set_cons_zero, List.set_cons_succ]
        refine takeH (i := 7) (x := .int .i64 (m : Int)) rfl rfl (by kernel_rfl) (by kernel_rfl) (by kernel_rfl) (fun _ _ _ h => h) (Or.inl ⟨by rfl, fun w hSw => by (try dsimp only at hSw); obtain ⟨hs7, hs0⟩ := hSw; (go_simp <;> with_reducible rfl)⟩) (by assumption) ?_
        simp only [List.setIfInBounds_toArray, List.set_cons_zero, List.set_cons_succ]
        refine takeH (i := 8) (x := .pointer (some ⟨w.heap.size, m, none⟩)) rfl rfl (by kernel_rfl) (by kernel_rfl) (by kernel_rfl) (fun _ _ _ h => h) (Or.inl ⟨by rfl, fun w hSw => by (try dsimp only at hSw); obtain ⟨hs7, hs0⟩ := hSw; (go_simp <;> with_reducible rfl)⟩) (by assumption) ?_
        simp only [List.setIfInBounds_toArray, List.set_cons_zero, List.set_cons_succ]
        refine takeH (i := 10) (x := .pointer (some ⟨T, 0, none⟩)) rfl rfl (by kernel_rfl) (by kernel_rfl) (by kernel_rfl) (fun _ _ _ h => h) (Or.inl ⟨by rfl, fun w hSw => by (try dsimp only at hSw); obtain ⟨hs7, hs0⟩ := hSw; (go_simp <;> with_reducible rfl)⟩) (by assumption) ?_
        simp only [List.setIfInBounds_toArray, List.set_cons_zero, List.set_cons_succ]
        refine takeH (i := 11) (x := .int .u8 (z.toNat : Int)) rfl rfl (by kernel_rfl) (by kernel_rfl) (by kernel_rfl) (fun _ _ _ h => h) (Or.inl ⟨by rfl, fun w hSw => by (try dsimp only at hSw); obtain ⟨hs7, hs0⟩ := hSw; (go_simp <;> with_reducible rfl)⟩) (by assumption) ?_
        simp only [List.setIfInBounds_toArray, List.set_cons_zero, List.set_cons_succ]
        refine takeH (i := 12) (x := .int .u8 (a.toNat : Int)) rfl rfl (by kernel_rfl) (by kernel_rfl) (by kernel_rfl) (fun _ _ _ h => h) (Or.inl ⟨by rfl, fun w hSw => by (try dsimp only at hSw); obtain ⟨hs7, hs0⟩ := hSw; (go_simp <;> with_reducible rfl)⟩) (by assumption) ?_
        simp only [List.setIfInBounds_toArray, List.set_cons_zero, List.set_cons_succ]
        refine wpAnyH_all (rs := [9, 13]) (by kernel_rfl) (by simp) (List.forall_mem_cons.2 ⟨?_, List.forall_mem_cons.2 ⟨?_, fun _ h => absurd h List.not_mem_nil⟩⟩)
        · refine op_put (x := .int .u8 (s.toNat : Int)) rfl rfl rfl ?hx1 ⟨hHeld, ?_⟩
          case hx1 =>
            have hcl := HCE.out
            have hcl2 : World.cell? (World.drew wr) ⟨w.heap.size, m, none⟩ = some (.int .u8 (s.toNat : Int)) := HCE.out
            simp only [execOp]
            (go_simp <;> with_reducible rfl)
          simp only [List.setIfInBounds_toArray, List.set_cons_zero, List.set_cons_succ]
          refine wpAnyH_all (rs := [13]) (by kernel_rfl) (by simp) (List.forall_mem_cons.2 ⟨?_, fun _ h => absurd h List.not_mem_nil⟩)
          refine op_call rfl rfl rfl rfl (enters_of Tryz.func68 (by kernel_rfl) rfl) (args := #[.pointer (some ⟨T, 0, none⟩), .int .u8 (z.toNat : Int), .int .u8 (a.toNat : Int)]) (by simp [Act.eval]) (R := fun y v => y = .int .u8 (u.toNat : Int) ∧ ∃ n, v = (World.drew wr).drewN n) ?hc5 (fun y v hR => ?_)
          case hc5 => exact (MC.out (World.drew wr) (HTW.out.later (Kit.dn' wr 1))).mono (by rintro e w' ⟨rfl, n', rfl⟩; exact ⟨_, rfl, rfl, n', rfl⟩)
          obtain ⟨rfl, n', rfl⟩ := hR
          replace hHeld := HK.out _ (Kit.Dn.add (⟨1, rfl⟩ : Kit.Dn wr (World.drew wr)) n')
          refine ⟨hHeld, ?_⟩
          simp only [List.setIfInBounds_toArray, List.set_cons_zero, List.set_cons_succ]
          refine wpAnyH_all (rs := [14]) (by kernel_rfl) (by simp) (List.forall_mem_cons.2 ⟨?_, fun _ h => absurd h List.not_mem_nil⟩)
          refine op_call rfl rfl rfl rfl (enters_of Tryz.func66 (by kernel_rfl) rfl) (args := #[.int .u8 (s.toNat : Int), .int .u8 (u.toNat : Int)]) (by simp [Act.eval]) (R := fun y v => y = .int .u8 (r.toNat : Int) ∧ v = (World.drew wr).drewN n') ?hc6 (fun y v hR => ?_)
          case hc6 => exact (AC.out _).mono (by rintro e w' ⟨rfl, rfl⟩; exact ⟨_, rfl, rfl, rfl⟩)
          obtain ⟨rfl, rfl⟩ := hR
          refine ⟨hHeld, ?_⟩
          simp only [List.setIfInBounds_toArray, List.set_cons_zero, List.set_cons_succ]
          refine takeH (i := 15) (x := .pointer (some ⟨w.heap.size, m, none⟩)) rfl rfl (by kernel_rfl) (by kernel_rfl) (by kernel_rfl) (fun _ _ _ h => h) (Or.inl ⟨by rfl, fun w hSw => by (try dsimp only at hSw); obtain ⟨hs7, hs0⟩ := hSw; (go_simp <;> with_reducible rfl)⟩) (by assumption) ?_
          simp only [List.setIfInBounds_toArray, List.set_cons_zero, List.set_cons_succ]
          refine wpAnyH_all (rs := [16]) (by kernel_rfl) (by simp) (List.forall_mem_cons.2 ⟨?_, fun _ h => absurd h List.not_mem_nil⟩)
          have hst := HK2.out _ (Kit.Dn.add (⟨1, rfl⟩ : Kit.Dn wr (World.drew wr)) n')
          refine op_skip (v' := ((World.drew wr).drewN n').setCell ⟨w.heap.size, m, none⟩ (.int .u8 (r.toNat : Int))) rfl rfl rfl ?hx2 ⟨hst, ?_⟩
          case hx2 =>
            have hcl := HCE.out
            have hfl := HFR.out
            simp only [execOp]
            (go_simp <;> with_reducible rfl)
          refine wpAnyH_done (by kernel_rfl) ?_ _
          refine NoPanic.normal ?_
          go_wp2_with fail
          go_roundw
          case rel => exact ⟨k + 1, by omega, by go_num, (HS.out _ ⟨1 + n', rfl⟩).1, HO.out.trans ((Only.of_below (Kit.dn' wr (1 + n'))).trans (HS.out _ ⟨1 + n', rfl⟩).2)⟩
          case measure => simp [intOf]; omega
        · refine op_call rfl rfl rfl rfl (enters_of Tryz.func68 (by kernel_rfl) rfl) (args := #[.pointer (some ⟨T, 0, none⟩), .int .u8 (z.toNat : Int), .int .u8 (a.toNat : Int)]) (by simp [Act.eval]) (R := fun y v => y = .int .u8 (u.toNat : Int) ∧ ∃ n, v = (World.drew wr).drewN n) ?hc7 (fun y v hR => ?_)
          case hc7 => exact (MC.out (World.drew wr) (HTW.out.later (Kit.dn' wr 1))).mono (by rintro e w' ⟨rfl, n', rfl⟩; exact ⟨_, rfl, rfl, n', rfl⟩)
          obtain ⟨rfl, n', rfl⟩ := hR
          replace hHeld := HK.out _ (Kit.Dn.add (⟨1, rfl⟩ : Kit.Dn wr (World.drew wr)) n')
          refine ⟨hHeld, ?_⟩
          simp only [List.setIfInBounds_toArray, List.set_cons_zero, List.set_cons_succ]
          refine wpAnyH_all (rs := [9]) (by kernel_rfl) (by simp) (List.forall_mem_cons.2 ⟨?_, fun _ h => absurd h List.not_mem_nil⟩)
          refine op_put (x := .int .u8 (s.toNat : Int)) rfl rfl rfl ?hx3 ⟨hHeld, ?_⟩
          case hx3 =>
            have hcl := HCE.out
            have hcl2 : World.cell? ((World.drew wr).drewN n') ⟨w.heap.size, m, none⟩ = some (.int .u8 (s.toNat : Int)) := HCE.out
            simp only [execOp]
            (go_simp <;> with_reducible rfl)
          simp only [List.setIfInBounds_toArray, List.set_cons_zero, List.set_cons_succ]
          refine wpAnyH_all (rs := [14]) (by kernel_rfl) (by simp) (List.forall_mem_cons.2 ⟨?_, fun _ h => absurd h List.not_mem_nil⟩)
          refine op_call rfl rfl rfl rfl (enters_of Tryz.func66 (by kernel_rfl) rfl) (args := #[.int .u8 (s.toNat : Int), .int .u8 (u.toNat : Int)]) (by simp [Act.eval]) (R := fun y v => y = .int .u8 (r.toNat : Int) ∧ v = (World.drew wr).drewN n') ?hc8 (fun y v hR => ?_)
          case hc8 => exact (AC.out _).mono (by rintro e w' ⟨rfl, rfl⟩; exact ⟨_, rfl, rfl, rfl⟩)
          obtain ⟨rfl, rfl⟩ := hR
          refine ⟨hHeld, ?_⟩
          simp only [List.setIfInBounds_toArray, List.set_cons_zero, List.set_cons_succ]
          refine takeH (i := 15) (x := .pointer (some ⟨w.heap.size, m, none⟩)) rfl rfl (by kernel_rfl) (by kernel_rfl) (by kernel_rfl) (fun _ _ _ h => h) (Or.inl ⟨by rfl, fun w hSw => by (try dsimp only at hSw); obtain ⟨hs7, hs0⟩ := hSw; (go_simp <;> with_reducible rfl)⟩) (by assumption) ?_
          simp only [List.setIfInBounds_toArray, List.set_cons_zero, List.set_cons_succ]
          refine wpAnyH_all (rs := [16]) (by kernel_rfl) (by simp) (List.forall_mem_cons.2 ⟨?_, fun _ h => absurd h List.not_mem_nil⟩)
          have hst := HK2.out _ (Kit.Dn.add (⟨1, rfl⟩ : Kit.Dn wr (World.drew wr)) n')
          refine op_skip (v' := ((World.drew wr).drewN n').setCell ⟨w.heap.size, m, none⟩ (.int .u8 (r.toNat : Int))) rfl rfl rfl ?hx4 ⟨hst, ?_⟩
          case hx4 =>
            have hcl := HCE.out
            have hfl := HFR.out
            simp only [execOp]
            (go_simp <;> with_reducible rfl)
          refine wpAnyH_done (by kernel_rfl) ?_ _
          refine NoPanic.normal ?_
          go_wp2_with fail
          go_roundw
          case rel => exact ⟨k + 1, by omega, by go_num, (HS.out _ ⟨1 + n', rfl⟩).1, HO.out.trans ((Only.of_below (Kit.dn' wr (1 + n'))).trans (HS.out _ ⟨1 + n', rfl⟩).2)⟩
          case measure => simp [intOf]; omega
      · obtain rfl : k = B.length := by omega
        have hall : B.take B.length = B := List.take_length
        rw [hall, HMM.out] at hb
        have hml := hb.le
        have HR : Hid (RowIs wr (some ⟨w.heap.size, 0, none⟩) (bytesV (Gf.mendL C B a x)) C.length) := Lib.hid hb.row
        have HL : Hid (C.length = (Gf.mendL C B a x).length) := Lib.hid (by rw [Gf.mendL_length]; exact HN.out)
        have HBW : Hid (Below w.heap.size w wr) := Lib.hid (HB2.out.trans (ho.below (Nat.le_refl _) HB2.out.size))
        clear hall hb ho
        go_wp2_with fail
        go_ret
        exact ⟨w.heap.size, C.length, by rw [← HL.out]; rfl, Nat.le_refl _, HBW.out, HR.out⟩
end Go.Proofs.YtgifbpjmblemhaaGreatDoor
namespace Go.Proofs.YtgifbpjmblemhaaGreatDoor
open Go.RowKit
set_option linter.unusedVariables false
set_option linter.unusedSimpArgs false
/-- the variables that feed writes -/
def FM (b k : Nat) : Prop := k = b + 2 ∨ k = b + 3 ∨ k = b + 5 ∨ k = b + 6 ∨ k = b + 7
/-- the variables of a register -/
structure RgB (b T : Nat) (Ct : Array Value) (vn vl vo vw va : Value) (w : World) : Prop where
  tb : T < b
  tab : TabAt w T Ct
  qt : Boxed w b 112 (.pointer (some ⟨T, 0, none⟩))
  qn : Boxed w (b + 2) 24 vn
  ql : Boxed w (b + 3) 3 vl
  qo : Boxed w (b + 5) 24 vo
  qw : Boxed w (b + 6) 5 vw
  qa : Boxed w (b + 7) 3 va
  qf : Boxed w (b + 8) 147 (.func (.func 90) #[] #[.pointer (some ⟨b + 2, 0, none⟩), .pointer (some ⟨b, 0, none⟩)])
  qm : Boxed w (b + 9) 148 (.func (.func 91) #[] #[.pointer (some ⟨b + 2, 0, none⟩), .pointer (some ⟨b + 7, 0, none⟩), .pointer (some ⟨b + 5, 0, none⟩), .pointer (some ⟨b, 0, none⟩)])
section
variable {b T : Nat} {Ct : Array Value} {vn vl vo vw va : Value} {w w' : World}
theorem RgB.later (h : RgB b T Ct vn vl vo vw va w) (hb : Below w.heap.size w w') : RgB b T Ct vn vl vo vw va w' :=
  ⟨h.tb, h.tab.later hb, boxed_later h.qt hb, boxed_later h.qn hb, boxed_later h.ql hb, boxed_later h.qo hb, boxed_later h.qw hb, boxed_later h.qa hb, boxed_later h.qf hb, boxed_later h.qm hb⟩
theorem tab_other {k : Nat} {u : Value} (h : TabAt w T Ct) (hne : T ≠ k) : TabAt (w.setCell ⟨k, 0, none⟩ u) T Ct := Only.tab (grownBy_setCell' w k u) h hne
theorem RgB.now (h : RgB b T Ct vn vl vo vw va w) (u : Value) : RgB b T Ct u vl vo vw va (w.setCell ⟨b + 2, 0, none⟩ u) :=
  ⟨h.tb, tab_other h.tab (by have := h.tb; omega), h.qt.other (by omega) _, h.qn.set _, h.ql.other (by omega) _, h.qo.other (by omega) _, h.qw.other (by omega) _, h.qa.other (by omega) _, h.qf.other (by omega) _, h.qm.other (by omega) _⟩
theorem RgB.long (h : RgB b T Ct vn vl vo vw va w) (u : Value) : RgB b T Ct vn u vo vw va (w.setCell ⟨b + 3, 0, none⟩ u) :=
  ⟨h.tb, tab_other h.tab (by have := h.tb; omega), h.qt.other (by omega) _, h.qn.other (by omega) _, h.ql.set _, h.qo.other (by omega) _, h.qw.other (by omega) _, h.qa.other (by omega) _, h.qf.other (by omega) _, h.qm.other (by omega) _⟩
theorem RgB.old (h : RgB b T Ct vn vl vo vw va w) (u : Value) : RgB b T Ct vn vl u vw va (w.setCell ⟨b + 5, 0, none⟩ u) :=
  ⟨h.tb, tab_other h.tab (by have := h.tb; omega), h.qt.other (by omega) _, h.qn.other (by omega) _, h.ql.other (by omega) _, h.qo.set _, h.qw.other (by omega) _, h.qa.other (by omega) _, h.qf.other (by omega) _, h.qm.other (by omega) _⟩
theorem RgB.wrong (h : RgB b T Ct vn vl vo vw va w) (u : Value) : RgB b T Ct vn vl vo u va (w.setCell ⟨b + 6, 0, none⟩ u) :=
  ⟨h.tb, tab_other h.tab (by have := h.tb; omega), h.qt.other (by omega) _, h.qn.other (by omega) _, h.ql.other (by omega) _, h.qo.other (by omega) _, h.qw.set _, h.qa.other (by omega) _, h.qf.other (by omega) _, h.qm.other (by omega) _⟩
theorem RgB.ago (h : RgB b T Ct vn vl vo vw va w) (u : Value) : RgB b T Ct vn vl vo vw u (w.setCell ⟨b + 7, 0, none⟩ u) :=
  ⟨h.tb, tab_other h.tab (by have := h.tb; omega), h.qt.other (by omega) _, h.qn.other (by omega) _, h.ql.other (by omega) _, h.qo.other (by omega) _, h.qw.other (by omega) _, h.qa.set _, h.qf.other (by omega) _, h.qm.other (by omega) _⟩
theorem fm_set {k B : Nat} {u : Value} (h : FM b k) : Bts (FM b) B w (w.setCell ⟨k, 0, none⟩ u) := Bts.of_only (grownBy_setCell' w k u) h
theorem fm_below {w' : World} (h : Below w.heap.size w w') : Bts (FM b) w.heap.size w w' :=
  ⟨h.os, h.tape, h.output, h.size, fun i o _ hi _ => (h.block i (Array.getElem?_eq_some_iff.1 hi).1).trans hi⟩
end
theorem bts_mono {M : Nat → Prop} {A B : Nat} {a b : World} (h : Bts M B a b) (hA : A ≤ B) : Bts M A a b := ⟨h.os, h.tape, h.output, h.size, fun k o hk ho hc => h.same k o hk ho (hc.imp id (fun h => by omega))⟩
/-- the register in memory -/
structure RgM (b T : Nat) (Ct : Array Value) (C : List UInt8) (L : Nat) (B : List UInt8) (bw : UInt8) (x : Nat) (oC : Option Addr) (cC : Nat) (oB : Option Addr) (cB : Nat) (w : World) : Prop where
  box : RgB b T Ct (.slice oC C.length cC) (.int .i64 (L : Int)) (.slice oB B.length cB) (.int .u8 (bw.toNat : Int)) (.int .i64 (x : Int)) w
  rC : RowIs w oC (bytesV C) cC
  rB : RowIs w oB (bytesV B) cB
  fC : 0 < (bytesV C).length → ∀ p, oC = some p → ¬ FM b p.block
  fB : 0 < (bytesV B).length → ∀ p, oB = some p → ¬ FM b p.block
def FeedTo (b T : Nat) (Ct : Array Value) (s : List UInt8) (n : Nat) (w : World) (e : Ending) (w' : World) : Prop :=
  (∃ v, e = .returned v) ∧ ∃ C L B bw x oC cC oB cB, RgM b T Ct C L B bw x oC cC oB cB w' ∧ Gf.Reg (co s) (n + 1) C L B bw x ∧ Bts (FM b) w.heap.size w w'
theorem off_dis (s C r : List UInt8) (L n : Nat) (hC : C.length ≤ L + 1) (hL : L ≤ n) (hr : r = s.take (n + 1)) (hl : r.length = n + 1) : offS C r C.length = Gf.dis (co s) (co C) L n := by
  rw [← Gf.dis_len (co s) C L n hC]
  unfold offS
  refine Gf.sm_congr fun j hj => ?_
  rw [hl, Nat.add_sub_cancel, hr, co_take, if_pos (by omega)]
set_option maxRecDepth 100000 in
set_option maxHeartbeats 4000000 in
theorem feed_any (b T : Nat) (Ct : Array Value) (s : List UInt8) (n : Nat) (C : List UInt8) (L : Nat) (B : List UInt8) (bw : UInt8) (x : Nat) (oC : Option Addr) (cC : Nat) (oB : Option Addr) (cB : Nat) (oR : Option Addr) (cR : Nat) (w : World)
    (hM : RgM b T Ct C L B bw x oC cC oB cB w) (hg : Gf.Reg (co s) n C L B bw x) (hn : n < s.length) (hl : s.length ≤ 900) (hR : RowIs w oR (bytesV (s.take (n + 1))) cR) (hRf : ∀ p, oR = some p → ¬ FM b p.block) :
    Calls Tryz.prog 92 #[.slice oR (s.take (n + 1)).length cR, .pointer (some ⟨b + 7, 0, none⟩), .pointer (some ⟨b + 8, 0, none⟩), .pointer (some ⟨b + 9, 0, none⟩), .pointer (some ⟨b, 0, none⟩), .pointer (some ⟨b + 6, 0, none⟩), .pointer (some ⟨b + 3, 0, none⟩), .pointer (some ⟨b + 2, 0, none⟩), .pointer (some ⟨b + 5, 0, none⟩)] w (FeedTo b T Ct s n w) := by
  obtain ⟨r, hr⟩ : ∃ r, r = s.take (n + 1) := ⟨_, rfl⟩
  have hrl : r.length = n + 1 := by rw [hr]; simp; omega
  rw [← hr] at hR ⊢
  have hLn := hg.le
  have hCl := hg.len
  have hxn := hg.xle
  have hbl := hg.blen
  have hcp := hg.pos
  have HOFF := Lib.hid (off_dis s C r L n hCl hLn hr hrl)
  obtain ⟨w1, hw1⟩ : ∃ w1, w.setCell ⟨b + 7, 0, none⟩ (.int .i64 ((x : Int) + 1)) = w1 := ⟨_, rfl⟩
  have hbt : Bts (FM b) w.heap.size w w1 := by rw [← hw1]; exact fm_set (by unfold FM; omega)
  have hbx : RgB b T Ct (.slice oC C.length cC) (.int .i64 (L : Int)) (.slice oB B.length cB) (.int .u8 (bw.toNat : Int)) (.int .i64 ((x + 1 : Nat) : Int)) w1 := by rw [← hw1]; exact hM.box.ago _
  have hM1 : RgM b T Ct C L B bw (x + 1) oC cC oB cB w1 := ⟨hbx, hbt.row hM.rC hM.fC, hbt.row hM.rB hM.fB, hM.fC, hM.fB⟩
  have hR1 : RowIs w1 oR (bytesV r) cR := hbt.row hR fun _ => hRf
  have hc7 := hM.box.qa.cell
  have hf7 := hM.box.qa.frozen
  have hc8 := hM1.box.qf.cell
  have hwx : IntKind.i64.wrap ((x : Int) + 1) = (x : Int) + 1 := by rw [IntKind.wrap_i64]; omega
  have hRc := hR1.le
  have hRc2 := hR1.cap
  simp only [bytesV_length] at hRc
  unfold maxLen at hRc2
  have HW1 := Lib.hid hw1
  have HBT := Lib.hid hbt
  have HM1 := Lib.hid hM1
  have HR1 := Lib.hid hR1
  have HG := Lib.hid hg
  have HRL := Lib.hid hrl
  have HOF := Lib.hid (off_any b T Ct C r oC oR cC cR w1 hM1.box.tab hM1.box.qt hM1.box.qn hM1.rC hR1 (by omega))
  rw [HOFF.out] at HOF
  obtain ⟨d, hd⟩ : ∃ d, Gf.dis (co s) (co C) L n = d := ⟨_, rfl⟩
  rw [hd] at HOF
  have HD := Lib.hid hd
  have hdl := UInt8.toNat_lt d
  clear hM hg hR hr hbt hbx hM1 hR1 hw1 hd HOFF hrl
  go_enter Tryz.func92, Tryz.ntmps92
  go_wp2_with (first | rw [HW1.out] | fail)
  refine HOF.out.mono ?_; rintro e w2 ⟨rfl, hdn⟩
  have HM2 : Hid (RgM b T Ct C L B bw (x + 1) oC cC oB cB w2) := Lib.hid ⟨HM1.out.box.later hdn.below, HM1.out.rC.later hdn.below, HM1.out.rB.later hdn.below, HM1.out.fC, HM1.out.fB⟩
  have HBT2 : Hid (Bts (FM b) w.heap.size w w2) := Lib.hid (HBT.out.trans (bts_mono (fm_below hdn.below) HBT.out.size))
  clear HOF hc7 hf7 hc8 hdn HW1 HM1 HBT HR1
  by_cases hd0 : d = 0
  · have hde : ((d.toNat : Int) == 0) = true := by rw [hd0]; rfl
    have HD0 := Lib.hid hd0
    clear hd0
    go_wp2_with fail
    refine bodyPost_ret (results_none rfl _ _ _) rfl ?_
    exact ⟨⟨_, rfl⟩, C, L, B, bw, x + 1, oC, cC, oB, cB, HM2.out, HG.out.same (HD.out.trans HD0.out), HBT2.out⟩
  · have hde : ((d.toNat : Int) == 0) = false := beq_false_of_ne (fun h => hd0 (UInt8.toNat_inj.1 (by simpa using h)))
    have HD0 := Lib.hid hd0
    have hbne := HG.out.bne
    have hbl8 := UInt8.toNat_lt bw
    have DC : Hid (∀ v : World, TabAt v T Ct → Calls Tryz.prog 93 #[.pointer (some ⟨T, 0, none⟩), .int .u8 (d.toNat : Int), .int .u8 (bw.toNat : Int)] v fun e w' => e = .returned (.int .u8 ((Gf.gd d bw).toNat : Int)) ∧ ∃ n, w' = v.drewN n) := Lib.hid fun v hv => by
      rw [Gf.gd_nat]
      exact tdiv_any _ _ hdl (fun h => hbne (UInt8.toNat_inj.1 h)) hbl8 T Ct v hv
    have MEC : Hid (∀ v : World, Below w2.heap.size w2 v → Calls Tryz.prog 91 #[.int .u8 ((Gf.gd d bw).toNat : Int), .pointer (some ⟨b + 2, 0, none⟩), .pointer (some ⟨b + 7, 0, none⟩), .pointer (some ⟨b + 5, 0, none⟩), .pointer (some ⟨b, 0, none⟩)] v fun e w' =>
        ∃ g cap, e = .returned (.slice (some ⟨g, 0, none⟩) (Gf.mendL C B (Gf.gd d bw) (x + 1)).length cap) ∧ v.heap.size ≤ g ∧ Below v.heap.size v w' ∧ RowIs w' (some ⟨g, 0, none⟩) (bytesV (Gf.mendL C B (Gf.gd d bw) (x + 1))) cap) := Lib.hid fun v hv => by
      have hx := HM2.out.box.later hv
      exact mended_any b T Ct C B (Gf.gd d bw) (x + 1) oC oB cC cB v hx.tab hx.qt hx.qn hx.qa hx.qo (HM2.out.rC.later hv) (HM2.out.rB.later hv) (by omega) (by omega) (by omega)
    have HST : Hid (¬ 2 * L < n + 1 → Gf.Reg (co s) (n + 1) (Gf.mendL C B (Gf.gd d bw) (x + 1)) L B bw (x + 1)) := Lib.hid fun h => by
      have := HG.out.still (by rw [HD.out]; exact HD0.out) h
      rwa [HD.out] at this
    have HLO : Hid (2 * L < n + 1 → Gf.Reg (co s) (n + 1) (Gf.mendL C B (Gf.gd d bw) (x + 1)) (n + 1 - L) C d 0) := Lib.hid fun h => by
      have := HG.out.longer (by rw [HD.out]; exact HD0.out) h
      rwa [HD.out] at this
    generalize Gf.mendL C B (Gf.gd d bw) (x + 1) = N at *
    generalize Gf.gd d bw = a at *
    have hal := UInt8.toNat_lt a
    have hc9 := HM2.out.box.qm.cell
    have hc0 := HM2.out.box.qt.cell
    have hc6 := HM2.out.box.qw.cell
    have HK : Hid (∀ v, Below w2.heap.size w2 v → v.cell? ⟨b + 9, 0, none⟩ = some (.func (.func 91) #[] #[.pointer (some ⟨b + 2, 0, none⟩), .pointer (some ⟨b + 7, 0, none⟩), .pointer (some ⟨b + 5, 0, none⟩), .pointer (some ⟨b, 0, none⟩)]) ∧ v.cell? ⟨b, 0, none⟩ = some (.pointer (some ⟨T, 0, none⟩)) ∧ v.cell? ⟨b + 6, 0, none⟩ = some (.int .u8 (bw.toNat : Int))) := Lib.hid fun v hv => ⟨(HM2.out.box.later hv).qm.cell, (HM2.out.box.later hv).qt.cell, (HM2.out.box.later hv).qw.cell⟩
    clear hd0 hbne
    go_wp2_with fail
    go_region_held3 (fun v => v.cell? ⟨b + 9, 0, none⟩ = some (.func (.func 91) #[] #[.pointer (some ⟨b + 2, 0, none⟩), .pointer (some ⟨b + 7, 0, none⟩), .pointer (some ⟨b + 5, 0, none⟩), .pointer (some ⟨b, 0, none⟩)]) ∧ v.cell? ⟨b, 0, none⟩ = some (.pointer (some ⟨T, 0, none⟩)) ∧ v.cell? ⟨b + 6, 0, none⟩ = some (.int .u8 (bw.toNat : Int))) (first | exact HK.out _ (Kit.dn' w2 0) | exact HK.out _ (Kit.dn' w2 1) | exact HK.out _ (Kit.dn' w2 _) | exact HK.out _ (Kit.step (Kit.dn' w2 _) (by assumption))) (first | (go_at_call 93; refine (DC.out _ (HM2.out.box.later (Kit.dn' w2 1)).tab).mono ?_; rintro e w' ⟨rfl, n', rfl⟩) | (go_at_call 91; refine (MEC.out _ (Kit.dn' w2 _)).mono ?_; rintro e w3 ⟨g, cap, rfl, hge, hbe, hre⟩))
    have hb23 := Kit.step (Kit.dn' w2 _) hbe
    have hgw : w2.heap.size ≤ g := by simpa using hge
    have HM3 : Hid (RgM b T Ct C L B bw (x + 1) oC cC oB cB w3) := Lib.hid ⟨HM2.out.box.later hb23, HM2.out.rC.later hb23, HM2.out.rB.later hb23, HM2.out.fC, HM2.out.fB⟩
    have HBT3 : Hid (Bts (FM b) w.heap.size w w3) := Lib.hid (HBT2.out.trans (bts_mono (fm_below hb23) HBT2.out.size))
    have HRE := Lib.hid hre
    have hgb : b + 9 < g := by have := HM2.out.box.qm.lt; omega
    have hc3 := HM3.out.box.ql.cell
    have h2L : IntKind.i64.wrap (2 * (L : Int)) = 2 * (L : Int) := by rw [IntKind.wrap_i64]; omega
    have hfg : ¬ FM b g := by unfold FM; omega
    clear hc9 hc0 hc6 hge hbe hre hb23 DC MEC HK
    by_cases h2 : 2 * L < n + 1
    · have hdd : decide (2 * (L : Int) < (r.length : Int)) = true := decide_eq_true (by have := HRL.out; omega)
      have HLO2 := Lib.hid (HLO.out h2)
      have hsub : IntKind.i64.wrap ((r.length : Int) - (L : Int)) = ((n + 1 - L : Nat) : Int) := by rw [IntKind.wrap_i64]; have := HRL.out; omega
      have hc2 := HM3.out.box.qn.cell
      have hc5 := HM3.out.box.qo.cell
      have hf5 := HM3.out.box.qo.frozen
      have hc6 := HM3.out.box.qw.cell
      have hf6 := HM3.out.box.qw.frozen
      have hc7 := HM3.out.box.qa.cell
      have hf7 := HM3.out.box.qa.frozen
      have hf3 := HM3.out.box.ql.frozen
      have hf2 := HM3.out.box.qn.frozen
      clear h2
      go_wp2_with fail
      go_region
      obtain ⟨w4, hw4⟩ : ∃ w4, ((((w3.setCell ⟨b + 5, 0, none⟩ (.slice oC C.length cC)).setCell ⟨b + 6, 0, none⟩ (.int .u8 (d.toNat : Int))).setCell ⟨b + 7, 0, none⟩ (.int .i64 0)).setCell ⟨b + 3, 0, none⟩ (.int .i64 ((n + 1 - L : Nat) : Int))).drew = w4 := ⟨_, rfl⟩
      rw [hw4]
      have hbt4 : Bts (FM b) w3.heap.size w3 w4 := by
        rw [← hw4]
        exact (fm_set (by unfold FM; omega)).trans ((fm_set (by unfold FM; omega)).trans ((fm_set (by unfold FM; omega)).trans ((fm_set (by unfold FM; omega)).trans (bts_mono (fm_below (Kit.dn' _ 1)) (by simp)))))
      have hbx4 : RgB b T Ct (.slice oC C.length cC) (.int .i64 ((n + 1 - L : Nat) : Int)) (.slice oC C.length cC) (.int .u8 (d.toNat : Int)) (.int .i64 ((0 : Nat) : Int)) w4 := by
        rw [← hw4]
        exact ((((HM3.out.box.old _).wrong _).ago _).long _).later (Kit.dn' _ 1)
      obtain ⟨w5, hw5⟩ : ∃ w5, w4.setCell ⟨b + 2, 0, none⟩ (.slice (some ⟨g, 0, none⟩) N.length cap) = w5 := ⟨_, rfl⟩
      have hbt5 : Bts (FM b) w3.heap.size w3 w5 := hbt4.trans (by rw [← hw5]; exact fm_set (by unfold FM; omega))
      have HM5 : Hid (RgM b T Ct N (n + 1 - L) C d 0 (some ⟨g, 0, none⟩) cap oC cC w5) := Lib.hid ⟨by rw [← hw5]; exact hbx4.now _, hbt5.row HRE.out (fun _ p hp => by cases hp; exact hfg), hbt5.row HM3.out.rC HM3.out.fC, (fun _ p hp => by cases hp; exact hfg), HM3.out.fC⟩
      have HBT5 : Hid (Bts (FM b) w.heap.size w w5) := Lib.hid (HBT3.out.trans (bts_mono hbt5 HBT3.out.size))
      have HW5 := Lib.hid hw5
      clear hc2 hc3 hc5 hf5 hc6 hf6 hc7 hf7 hf3 hf2
      have hc2 := hbx4.qn.cell
      have hf2 := hbx4.qn.frozen
      clear hw4 hbt4 hbx4 hw5 hbt5
      go_wp2_with (first | rw [HW5.out] | fail)
      go_end0
      exact ⟨⟨_, rfl⟩, N, n + 1 - L, C, d, 0, _, cap, oC, cC, HM5.out, HLO2.out, HBT5.out⟩
    · have hdd : decide (2 * (L : Int) < (r.length : Int)) = false := decide_eq_false (by have := HRL.out; omega)
      have HST2 := Lib.hid (HST.out h2)
      obtain ⟨w4, hw4⟩ : ∃ w4, w3.setCell ⟨b + 2, 0, none⟩ (.slice (some ⟨g, 0, none⟩) N.length cap) = w4 := ⟨_, rfl⟩
      have hbt4 : Bts (FM b) w3.heap.size w3 w4 := by rw [← hw4]; exact fm_set (by unfold FM; omega)
      have HM4 : Hid (RgM b T Ct N L B bw (x + 1) (some ⟨g, 0, none⟩) cap oB cB w4) := Lib.hid ⟨by rw [← hw4]; exact HM3.out.box.now _, hbt4.row HRE.out (fun _ p hp => by cases hp; exact hfg), hbt4.row HM3.out.rB HM3.out.fB, (fun _ p hp => by cases hp; exact hfg), HM3.out.fB⟩
      have HBT4 : Hid (Bts (FM b) w.heap.size w w4) := Lib.hid (HBT3.out.trans (bts_mono hbt4 HBT3.out.size))
      have hc2 := HM3.out.box.qn.cell
      have hf2 := HM3.out.box.qn.frozen
      have HW4 := Lib.hid hw4
      clear h2 hw4 hbt4
      go_wp2_with (first | rw [HW4.out] | fail)
      go_end0
      exact ⟨⟨_, rfl⟩, N, L, B, bw, x + 1, _, cap, oB, cB, HM4.out, HST2.out, HBT4.out⟩
end Go.Proofs.YtgifbpjmblemhaaGreatDoor
namespace Go.Proofs.YtgifbpjmblemhaaGreatDoor
open Go.RowKit
set_option linter.unusedVariables false
set_option linter.unusedSimpArgs false
set_option maxRecDepth 100000 in
set_option maxHeartbeats 2000000 in
theorem told_any (b L : Nat) (C : List UInt8) (oC : Option Addr) (cC : Nat) (w : World) (hn : Boxed w (b + 2) 24 (.slice oC C.length cC)) (hl : Boxed w (b + 3) 3 (.int .i64 (L : Int))) (hC : RowIs w oC (bytesV C) cC) (hCl : C.length ≤ 10000) :
    Calls Tryz.prog 94 #[.pointer (some ⟨b + 2, 0, none⟩), .pointer (some ⟨b + 3, 0, none⟩)] w fun e w' => ∃ x, e = .returned (.tuple #[x, .int .i64 (L : Int)]) ∧ RowV (tr C) x w' ∧ Below w.heap.size w w' := by
  have hc2 := hn.cell
  have hc3 := hl.cell
  have HK : Hid (∀ v, Below w.heap.size w v → v.cell? ⟨b + 2, 0, none⟩ = some (.slice oC C.length cC) ∧ v.cell? ⟨b + 3, 0, none⟩ = some (.int .i64 (L : Int))) := Lib.hid fun v hv => ⟨(boxed_later hn hv).cell, (boxed_later hl hv).cell⟩
  have TC : Hid (∀ v, Below w.heap.size w v → Calls Tryz.prog 78 #[.slice oC C.length cC] v (Rows (tr C) v)) := Lib.hid fun v hv => trim_any C oC cC v (hC.later hv) (by omega)
  clear hn hl hC
  go_enter Tryz.func94, Tryz.ntmps94
  go_wp2_with fail
  go_region_held3 (fun v => v.cell? ⟨b + 2, 0, none⟩ = some (.slice oC C.length cC) ∧ v.cell? ⟨b + 3, 0, none⟩ = some (.int .i64 (L : Int))) (first | exact HK.out _ (Kit.dn' w 0) | exact HK.out _ (Kit.dn' w 1) | exact HK.out _ (Kit.step (Kit.dn' w 1) (by assumption))) (first | (go_at_call 78; refine (TC.out _ (Kit.dn' w 1)).mono ?_; rintro e w3 ⟨x, rfl, hx, hbe⟩; obtain ⟨o3, c3, rfl, hx⟩ := hx))
  go_wp2_with fail
  go_ret2
  exact ⟨_, rfl, ⟨o3, c3, rfl, hx⟩, Kit.step (Kit.dn' w 1) hbe⟩
theorem below_alloc {W X : World} (h : Below W.heap.size W X) (o : Obj) : Below W.heap.size W (X.alloc o) := h.alloc h.size o
set_option maxRecDepth 100000 in
set_option maxHeartbeats 2000000 in
theorem register0_any (w : World) : Calls Tryz.prog 75 #[] w fun e w' => ∃ b T Ct, e = .returned (.tuple #[.func (.func 92) #[] #[.pointer (some ⟨b + 7, 0, none⟩), .pointer (some ⟨b + 8, 0, none⟩), .pointer (some ⟨b + 9, 0, none⟩), .pointer (some ⟨b, 0, none⟩), .pointer (some ⟨b + 6, 0, none⟩), .pointer (some ⟨b + 3, 0, none⟩), .pointer (some ⟨b + 2, 0, none⟩), .pointer (some ⟨b + 5, 0, none⟩)],
      .func (.func 94) #[] #[.pointer (some ⟨b + 2, 0, none⟩), .pointer (some ⟨b + 3, 0, none⟩)]]) ∧ w.heap.size ≤ b ∧ RgM b T Ct [1] 0 [1] 1 0 (some ⟨b + 1, 0, none⟩) 1 (some ⟨b + 4, 0, none⟩) 1 w' ∧ Below w.heap.size w w' := by
  go_enter Tryz.func75, Tryz.ntmps75
  go_wp2_with fail
  refine (make_any _).mono ?_; rintro e w1 ⟨n, C, hC, rfl, hw1⟩
  have hT1 : TabAt w1 w.heap.size C := by rw [hw1]; exact TabAt.made hC
  have hb1 : Below w.heap.size w w1 := by rw [hw1]; exact made_below
  have hs1 : w1.heap.size = w.heap.size + 1 := by rw [hw1]; simp
  have HT1 := Lib.hid hT1
  have HB1 := Lib.hid hb1
  have HS1 := Lib.hid hs1
  clear hC hT1 hb1 hw1 hs1
  go_wp2_with fail
  have hb : ∀ (W : World) (k : Nat) (h : W.heap.size = k) (t : TypeId) (v : Value), Boxed (W.alloc (.cells #[v] t)) k t v := fun W k h t v => h ▸ Boxed.new W t v
  have hrow : ∀ (W : World) (k : Nat), Boxed W k 5 (.int .u8 1) → RowIs W (some ⟨k, 0, none⟩) (bytesV [1]) 1 := fun W k h => row_cells (z := [1]) h (by unfold maxLen; simp)
  have hs := HS1.out
  go_ret2
  refine ⟨w1.heap.size, w.heap.size, C, rfl, by omega, ⟨⟨by omega, ?_, ((((((((((hb _ _ (by simp) _ _).alloc _).alloc _).alloc _).alloc _).alloc _).alloc _).alloc _).alloc _).alloc _), ((((((((hb _ _ (by simp) _ _).alloc _).alloc _).alloc _).alloc _).alloc _).alloc _).alloc _), (((((((hb _ _ (by simp) _ _).alloc _).alloc _).alloc _).alloc _).alloc _).alloc _), (((((hb _ _ (by simp) _ _).alloc _).alloc _).alloc _).alloc _), ((((hb _ _ (by simp) _ _).alloc _).alloc _).alloc _), (((hb _ _ (by simp) _ _).alloc _).alloc _), ((hb _ _ (by simp) _ _).alloc _), (hb _ _ (by simp) _ _)⟩, hrow _ _ (((((((((hb _ _ (by simp) _ _).alloc _).alloc _).alloc _).alloc _).alloc _).alloc _).alloc _).alloc _), hrow _ _ ((((((hb _ _ (by simp) _ _).alloc _).alloc _).alloc _).alloc _).alloc _), (fun _ p hp => by cases hp; unfold FM; dsimp only; omega), (fun _ p hp => by cases hp; unfold FM; dsimp only; omega)⟩, ?_⟩
  · exact HT1.out.later (below_alloc (below_alloc (below_alloc (below_alloc (below_alloc (below_alloc (below_alloc (below_alloc (below_alloc (below_alloc (Below.refl w1.heap.size w1) _) _) _) _) _) _) _) _) _) _)
  · exact Kit.step HB1.out (below_alloc (below_alloc (below_alloc (below_alloc (below_alloc (below_alloc (below_alloc (below_alloc (below_alloc (below_alloc (Below.refl w1.heap.size w1) _) _) _) _) _) _) _) _) _) _)
end Go.Proofs.YtgifbpjmblemhaaGreatDoor
namespace Go.Proofs.YtgifbpjmblemhaaGreatDoor
open Go.RowKit
set_option linter.unusedVariables false
set_option linter.unusedSimpArgs false
def RxAt (s : List UInt8) (b T : Nat) (Ct : Array Value) (w : World) (iv : Value) (wr : World) : Prop :=
  ∃ k : Nat, k ≤ s.length ∧ iv = .int .i64 k ∧ (∃ C L B bw x oC cC oB cB, RgM b T Ct C L B bw x oC cC oB cB wr ∧ Gf.Reg (co s) k C L B bw x) ∧ Below w.heap.size w wr
def RegTo (s : List UInt8) (w : World) (e : Ending) (w' : World) : Prop :=
  ∃ C L x, e = .returned (.tuple #[x, .int .i64 ((L : Nat) : Int)]) ∧ RowV (tr C) x w' ∧ Below w.heap.size w w' ∧ Gf.Run (co s) s.length (co C) L ∧ Gf.Least (co s) s.length L ∧ L ≤ s.length ∧ C.length ≤ L + 1
set_option maxRecDepth 100000 in
set_option maxHeartbeats 4000000 in
theorem creg_any (s : List UInt8) (o : Option Addr) (c : Nat) (w : World) (hS : RowIs w o (bytesV s) c) (hl : s.length ≤ 900) :
    Calls Tryz.prog 58 #[.slice o s.length c] w (RegTo s w) := by
  have h1 := hS.le
  have h2 := hS.cap
  simp only [bytesV_length] at h1
  unfold maxLen at h2
  have HS := Lib.hid hS
  clear hS
  go_enter Tryz.func58, Tryz.ntmps58
  go_wp2_with fail
  refine (register0_any _).mono ?_; rintro e w1 ⟨b, T, Ct, rfl, hb, hm, hb1⟩
  have HM := Lib.hid hm
  have HB := Lib.hid hb
  have HB1 := Lib.hid hb1
  clear hm hb hb1
  go_wp2_with fail
  go_loopw [6, 13] (fun _ i wr => RxAt s b T Ct w i wr) (fun _ i _ => s.length - (intOf i).toNat)
  case atStart => exact ⟨0, Nat.zero_le _, rfl, ⟨[1], 0, [1], 1, 0, _, _, _, _, HM.out, Gf.Reg.first _⟩, HB1.out⟩
  case round =>
    obtain ⟨k, hk, rfl, ⟨C, L, B, bw, x, oC, cC, oB, cB, hm, hg⟩, hb⟩ := hrel
    by_cases hlt : k < s.length
    · have hlen : (s.take (k + 1)).length = k + 1 := by simp; omega
      have hR : RowIs wr o (bytesV (s.take (k + 1))) c := (HS.out.later hb).take (k + 1)
      have hRf : ∀ p, o = some p → ¬ FM b p.block := fun p hp => by
        obtain ⟨b1, off1, h1, h2, _⟩ := HS.out.cells (by simp; omega)
        rw [h1] at hp
        cases hp
        have := HB.out
        unfold FM; dsimp only; omega
      have hf := feed_any b T Ct s k C L B bw x oC cC oB cB o c wr hm hg hlt hl hR hRf
      rw [hlen] at hf
      obtain ⟨j, hj⟩ : ∃ j, k + 1 = j := ⟨_, rfl⟩
      rw [hj] at hf
      have hw1 : IntKind.i64.wrap ((k : Int) + 1) = (j : Int) := by rw [IntKind.wrap_i64]; omega
      have hj0 : (0 : Int) ≤ (j : Int) := by omega
      have hjc : (j : Int) ≤ (c : Int) := by omega
      have hki : (k : Int) < (s.length : Int) := by omega
      have HF := Lib.hid hf
      have HBW := Lib.hid hb
      have HJ := Lib.hid hj
      clear hf hb hm hg hR hRf hlen hj
      go_wp2_with fail
      refine HF.out.mono ?_; rintro e w2 ⟨⟨v, rfl⟩, C2, L2, B2, bw2, x2, oC2, cC2, oB2, cB2, hm2, hg2, hbt⟩
      have hb2 : Below w.heap.size w w2 := HBW.out.trans (hbt.below (fun k hk => by have := HB.out; unfold FM at hk; omega) HBW.out.size HBW.out.size)
      have HM2 := Lib.hid hm2
      have HG2 := Lib.hid hg2
      have HB2 := Lib.hid hb2
      clear hm2 hg2 hbt hb2 HF
      go_wp2_with fail
      go_roundw
      case rel => exact ⟨k + 1, by omega, by have := HJ.out; go_num, ⟨C2, L2, B2, bw2, x2, oC2, cC2, oB2, cB2, HM2.out, HG2.out⟩, HB2.out⟩
      case measure => have := HJ.out; simp [intOf]; omega
    · obtain rfl : k = s.length := by omega
      have hcl := hg.len
      have hle := hg.le
      have HT := Lib.hid (told_any b L C oC cC wr hm.box.qn hm.box.ql hm.rC (by omega))
      have HG := Lib.hid hg
      have HBW := Lib.hid hb
      clear hm hg hb
      go_wp2_with fail
      refine HT.out.mono ?_; rintro e w2 ⟨y, rfl, hy, hb⟩
      have HY := Lib.hid hy
      have HB2 := Lib.hid (Kit.step HBW.out hb)
      clear hb hy
      go_wp2_with fail
      go_ret2
      exact ⟨C, L, y, rfl, HY.out, HB2.out, HG.out.run, HG.out.least, hle, hcl⟩
end Go.Proofs.YtgifbpjmblemhaaGreatDoor
