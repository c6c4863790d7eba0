/- The walk of LocateEquation. -/
import Derived.Test.YtoefhhkemljjdaaDoorCo
import Derived.Test.YtoefhhkemljjdaaDoorPm
import Derived.Test.YtoefhhkemljjdaaDoorOp
import Derived.BigRegion
namespace Go.Proofs.YtoefhhkemljjdaaDoor
open Go.RowKit
set_option linter.unusedVariables false
set_option linter.unusedSimpArgs false
theorem info_bool : (Tryd.prog.info? 4).map (fun i => (i.zero, i.size, i.bytes)) = some (some (.bool false), 1, 1) := by kernel_rfl
set_option maxRecDepth 100000 in
theorem make_bools (N : Nat) (h : N ≤ 1000) (W : World) : (Instr.makeSlice 55 (.int .i64 (N : Int)) (.int .i64 (N : Int))).run Tryd.prog W = .ok (.slice (some ⟨W.heap.size, 0, none⟩) N N) (W.alloc (.cells (Array.replicate N (.bool false)) 4)) := by
  have hi := info_bool
  cases hh : Tryd.prog.info? 4 with
  | none => rw [hh] at hi; cases hi
  | some i =>
    rw [hh] at hi
    simp only [Option.map_some, Option.some.injEq, Prod.mk.injEq] at hi
    have := run_make (P := Tryd.prog) W 55 4 i (.bool false) Tryd.underlying55 hh hi.1 .i64 .i64 (N : Int) (N : Int) (by omega) (by omega) (by rw [hi.2.2]; omega) (by omega)
    rw [this, hi.2.1]
    simp only [Int.toNat_natCast, Nat.mul_one]
    congr 3
    apply Array.ext
    · simp [madeCells]
    · intro k h1 h2
      simp [madeCells, Value.cells]
      rw [Nat.mod_one]; rfl
/-- the place that a number stands for -/
def plc (q : Int) (N : Nat) : Nat := (q % 18446744073709551616).toNat % N
theorem plc_lt (q : Int) (N : Nat) (h : 0 < N) : plc q N < N := Nat.mod_lt _ h
theorem wrap_u64 (q : Int) : IntKind.u64.wrap q = ((q % 18446744073709551616).toNat : Int) := by
  have h : 0 ≤ q % 18446744073709551616 := Int.emod_nonneg _ (by decide)
  rw [Int.toNat_of_nonneg h]
  simp [IntKind.wrap, IntKind.bits, IntKind.signed]
theorem BRow.congr {W : World} {g n : Nat} {f f' : Nat → Bool} (h : BRow W g n f) (he : ∀ i, i < n → f i = f' i) : BRow W g n f' := by
  unfold BRow at *
  rw [h]
  congr 2
  exact congrArg List.toArray (List.map_congr_left fun i hi => by rw [he i (List.mem_range.1 hi)])
def EqAt (V : List UInt8) (M N gh g cap : Nat) (w0 : World) (mv iv : Value) (wr : World) : Prop :=
  ∃ k : Nat, k ≤ M ∧ iv = .int .i64 k ∧ ∃ (W : List UInt8) (H : List Nat), mv = .int .i64 (H.length : Int) ∧ W.length = N ∧ BRow wr gh N (fun p => decide (p ∈ H)) ∧ Buf wr g cap W ∧ Below w0.heap.size w0 wr ∧ H.Nodup ∧ H.length ≤ k ∧
    (∀ p, p < N → (p ∈ H ↔ co W p ≠ co V p)) ∧ ∀ p ∈ H, p < N
theorem buf_same {W W' : World} {g cap : Nat} {ys : List UInt8} (h : Buf W g cap ys) (e : W'.heap[g]? = W.heap[g]?) : Buf W' g cap ys := by
  obtain ⟨hl, hx⟩ := h
  refine ⟨hl, ?_⟩
  rcases hx with h0 | ⟨g', cap', cur, hv, hb, hh, rest⟩
  · exact .inl h0
  · have hg : g = g' := by injection hv with h1 _ _; injection h1 with h1; injection h1
    subst hg
    exact .inr ⟨g, cap', cur, hv, hb, e.trans hh, rest⟩
theorem step_mem {V W : List UInt8} {H : List Nat} {N p : Nat} {b : UInt8} (hl : W.length = N) (hm : ∀ p, p < N → (p ∈ H ↔ co W p ≠ co V p)) (hp : p < N) (hn : p ∉ H) (hb : b ≠ 0) :
    ∀ q, q < N → (q ∈ p :: H ↔ co (W.set p (co W p ^^^ b)) q ≠ co V q) := fun q hq => by
  have e : co W p = co V p := by
    by_cases h : co W p = co V p
    · exact h
    · exact absurd ((hm p hp).2 h) hn
  rw [co_set, List.mem_cons]
  by_cases hqp : p = q
  · subst hqp
    rw [if_pos ⟨rfl, by omega⟩]
    refine ⟨fun _ h => ?_, fun _ => .inl rfl⟩
    rw [e] at h
    have := congrArg (fun x => co V p ^^^ x) h
    simp only [← UInt8.xor_assoc, UInt8.xor_self, UInt8.zero_xor] at this
    exact hb this
  · rw [if_neg (fun h => hqp h.1)]
    constructor
    · rintro (h | h)
      · exact absurd h.symm hqp
      · exact (hm q hq).1 h
    · intro h
      exact .inr ((hm q hq).2 h)
/-- what each operation of the region has as its result -/
def LeqG (s M : List UInt8) (Q F : Nat) (i : Nat) (x : Value) (v : World) : Prop :=
  match i with
  | 0 => (x) = .agg (bytesV s).toArray
  | 1 => RowV (tr s) (x) v
  | 2 => (x) = .pointer (some ⟨F, 1, none⟩)
  | 3 => RowV (M) (x) v
  | 4 => RowV (tr (mulL (tr s) M)) (x) v
  | _ => RowV (tr ((tr (mulL (tr s) M)).take (lowN 32 (tr (mulL (tr s) M)).length))) (x) v
theorem LeqG.later {s M : List UInt8} {Q F : Nat} (i : Nat) (x : Value) (v v' : World) (h : LeqG s M Q F i x v) (hb : Below v.heap.size v v') : LeqG s M Q F i x v' := by
  unfold LeqG at *
  split at h <;> first | exact h | exact h.later hb
/-- what each operation of the region has as its result -/
def LerqG (V2 M : List UInt8) (dv dm : Int) (L F : Nat) (B : Bool) (i : Nat) (x : Value) (v : World) : Prop :=
  match i with
  | 0 | 3 | 8 | 17 => RowV (V2) (x) v
  | 1 | 4 => (x) = .string ⟨(V2).toArray⟩
  | 2 | 7 | 16 => (x) = .pointer (some ⟨F, 2, none⟩)
  | 9 => (x) = .int .i64 dv
  | 10 => (x) = .pointer (some ⟨F, 1, none⟩)
  | 11 => RowV (M) (x) v
  | 12 => (x) = .int .i64 dm
  | 18 => (x) = .int .i64 ((V2).length : Int)
  | 19 | 21 => (x) = .bool B
  | 20 => (x) = .int .i64 (L : Int)
  | _ => (x) = .bool true
theorem LerqG.later {V2 M : List UInt8} {dv dm : Int} {L F : Nat} {B : Bool} (i : Nat) (x : Value) (v v' : World) (h : LerqG V2 M dv dm L F B i x v) (hb : Below v.heap.size v v') : LerqG V2 M dv dm L F B i x v' := by
  unfold LerqG at *
  split at h <;> first | exact h | exact h.later hb
set_option maxRecDepth 100000 in
set_option maxHeartbeats 8000000 in
theorem leq_main (Z : Array Value) (hzs : ∀ w, Sem.run Tryd.prog (zeroValue 36) w = .ok (.agg Z) w) (hZs : Z.size = 32) (d : List UInt8) (zs : List (Int × UInt8)) (o oz : Option Addr) (c cz : Nat) (w : World) (hP : RowIs w o (bytesV d) c) (hZ : PairsIs w oz zs cz) (hl1 : 1 ≤ d.length) (hl2 : d.length ≤ 223) (hl3 : zs.length ≤ 16) :
    Calls Tryd.prog 7 #[.slice o d.length c, .slice oz zs.length cz] w fun e w' => e = .returned (.bool true) ∧ Below w.heap.size w w' := by
  have h1 := hP.le
  have h2 := hP.cap
  simp only [bytesV_length] at h1
  unfold maxLen at h2
  have hz1 := hZ.le
  have hz2 := hZ.cap
  unfold maxLen at hz2
  have HP := Lib.hid hP
  have HZ := Lib.hid hZ
  have hd1 : decide ((223 : Int) < (d.length : Int)) = false := decide_eq_false (by omega)
  have hd2 : decide ((16 : Int) < (zs.length : Int)) = false := decide_eq_false (by omega)
  clear hP hZ
  go_enter Tryd.func7, Tryd.ntmps7
  go_wp2_with fail
  refine (alive4_any _).mono ?_; rintro e w1 ⟨rfl, hb⟩
  have HB1 := Lib.hid hb
  clear hb
  go_wp2_with fail
  refine (encode_own d o c w1 (HP.out.later HB1.out) hl1 hl2).mono ?_; rintro e w2 ⟨r, g, cap, hr, hc, rfl, hg, hbu, hb⟩
  obtain ⟨V, hV⟩ : ∃ V, d ++ r = V := ⟨_, rfl⟩
  have hVl : V.length = d.length + 32 := by rw [← hV, List.length_append, hr]
  rw [hV] at hc hbu ⊢
  obtain ⟨N, hN⟩ : ∃ N, V.length = N := ⟨_, rfl⟩
  rw [hN] at hVl ⊢
  have HVC := Lib.hid hc
  have HVN := Lib.hid hN
  have HBU := Lib.hid hbu
  have HB2 := Lib.hid (Kit.step HB1.out hb)
  have HG : Hid (w1.heap.size ≤ g) := Lib.hid hg
  have hN1 : N ≤ 255 := by omega
  have hN2 : 33 ≤ N := by omega
  have hNi : (d.length : Int) + 32 = (N : Int) := by omega
  have hwN : IntKind.i64.wrap ((d.length : Int) + 32) = (N : Int) := by rw [IntKind.wrap_i64]; omega
  have HNE := Lib.hid hVl
  have hmk := make_bools N (by omega)
  obtain ⟨w3, hw3⟩ : ∃ w3, w2.alloc (.cells (Array.replicate N (.bool false)) 4) = w3 := ⟨_, rfl⟩
  have hb3 : Below w2.heap.size w2 w3 := by rw [← hw3]; exact (Below.refl _ _).alloc (Nat.le_refl _) _
  have hbr : BRow w3 w2.heap.size N (fun p => decide (p ∈ ([] : List Nat))) := by rw [← hw3]; exact (brow_new w2 N).congr fun i _ => by simp
  have HB3 := Lib.hid (Kit.step HB2.out hb3)
  have HBR := Lib.hid hbr
  have HBU3 := Lib.hid (hbu.later hb3)
  have hglt := hbu.lt
  have HGL : Hid (g < w2.heap.size) := Lib.hid hglt
  have HW3 := Lib.hid hw3
  clear hr hc hV hN hg hbu hb hVl hw3 hb3 hbr hglt
  go_wp2_with fail
  rw [HW3.out]
  go_loopw [8, 10, 11, 52] (fun mv _ _ iv wr => EqAt V zs.length N w2.heap.size g cap w mv iv wr) (fun _ _ _ iv _ => zs.length - (intOf iv).toNat)
  case atStart => exact ⟨0, Nat.zero_le _, rfl, V, [], rfl, HVN.out, HBR.out, HBU3.out, HB3.out, List.nodup_nil, Nat.le_refl _, fun p _ => by simp, fun p hp => by cases hp⟩
  case round =>
    obtain ⟨k, hk, rfl, W, H, rfl, hWl, hbr, hbu, hb, hnd, hHk, hmem, hlt⟩ := hrel
    by_cases hkz : k < zs.length
    · obtain ⟨b, off, rfl, hblt, hcells⟩ := (HZ.out.later hb).cells (by omega)
      obtain ⟨hcq, hcb⟩ := hcells k hkz
      have hcb2 : wr.cell? ⟨b, off + k * 2 + 1, none⟩ = _ := hcb
      have hqw := HZ.out.wf k
      obtain ⟨q, hq⟩ : ∃ q, (zs.getD k (0, 0)).1 = q := ⟨_, rfl⟩
      obtain ⟨y, hy⟩ : ∃ y, (zs.getD k (0, 0)).2 = y := ⟨_, rfl⟩
      rw [hq] at hcq hqw
      rw [hy] at hcb hcb2
      obtain ⟨u, hu⟩ : ∃ u, (q % 18446744073709551616).toNat = u := ⟨_, rfl⟩
      have hwu : IntKind.u64.wrap q = (u : Int) := by rw [wrap_u64, hu]
      have hwn : IntKind.u64.wrap (N : Int) = (N : Int) := by rw [wrap_u64]; omega
      obtain ⟨p, hp⟩ : ∃ p, u % N = p := ⟨_, rfl⟩
      have hpl : p < N := by rw [← hp]; exact Nat.mod_lt _ (by omega)
      have htm : Int.tmod (u : Int) (N : Int) = (p : Int) := by rw [← hp]; rfl
      have hwp : IntKind.u64.wrap (p : Int) = (p : Int) := by rw [wrap_u64]; omega
      have hwp2 : IntKind.i64.wrap (p : Int) = (p : Int) := by rw [IntKind.wrap_i64]; omega
      have hyl := UInt8.toNat_lt y
      have hk0 : (0 : Int) ≤ (k : Int) := by omega
      have hk1 : (k : Int) < (zs.length : Int) := by omega
      have hN0 : ((N : Int) == 0) = false := beq_false_of_ne (by omega)
      have hN00 : ¬ (N : Int) = 0 := by omega
      obtain ⟨w5, hw5⟩ : ∃ w5, wr.alloc (.cells #[.int .i64 q, .int .u8 (y.toNat : Int)] 57) = w5 := ⟨_, rfl⟩
      have hb5 : Below wr.heap.size wr w5 := by rw [← hw5]; exact (Below.refl _ _).alloc (Nat.le_refl _) _
      have hbr5 := hbr.later hb5
      have hbu5 := hbu.later hb5
      have hc5 := hbr5.cell p hpl
      have hc5' := hbr.cell p hpl
      have hfp := hbr5.frozen p
      have hfp' := hbr.frozen p
      have hcy : w5.cell? ⟨wr.heap.size, 1, none⟩ = some (.int .u8 (y.toNat : Int)) := by
        rw [← hw5, cell_of_row _ _ 1 _ _ _ (World.alloc_heap_new wr _)]; rfl
      have HBR5 := Lib.hid hbr5
      have HBU5 := Lib.hid hbu5
      have HB5 := Lib.hid (Kit.step hb hb5)
      have HQ5 : Hid (wr.heap.size < w5.heap.size) := Lib.hid (by rw [← hw5]; simp)
      have HGH : Hid (w2.heap.size < wr.heap.size) := Lib.hid hbr.lt
      have HGW : Hid (g < wr.heap.size) := Lib.hid hbu.lt
      have HND := Lib.hid hnd
      have HMEM := Lib.hid hmem
      have HLT := Lib.hid hlt
      have HWL := Lib.hid hWl
      have HPL := Lib.hid hpl
      have hpl' := hpl
      have HW5 := Lib.hid hw5
      rw [← hw5] at hc5 hfp
      clear hcells hbr hbu hb hnd hmem hlt hWl hq hy hu hp hbr5 hbu5 hb5 hw5
      by_cases hpH : p ∈ H
      · rw [decide_eq_true hpH] at hc5 hc5'
        have HPH := Lib.hid hpH
        clear hpH
        go_wp2_with fail
        rw [HW5.out]
        go_roundw
        case rel => exact ⟨k + 1, by omega, by go_num, W, H, rfl, HWL.out, HBR5.out, HBU5.out, HB5.out, HND.out, by omega, HMEM.out, HLT.out⟩
        case measure => simp [intOf]; omega
      · rw [decide_eq_false hpH] at hc5 hc5'
        have HPH := Lib.hid hpH
        clear hpH
        by_cases hy0 : y = 0
        · have hyb : ((y.toNat : Int) != 0) = false := by rw [hy0]; rfl
          clear hy0
          go_wp2_with fail
          rw [HW5.out]
          go_roundw
          case rel => exact ⟨k + 1, by omega, by go_num, W, H, rfl, HWL.out, HBR5.out, HBU5.out, HB5.out, HND.out, by omega, HMEM.out, HLT.out⟩
          case measure => simp [intOf]; omega
        · have hyn : ¬ (y.toNat : Int) = 0 := fun h => hy0 (UInt8.toNat_inj.1 (by simpa using h))
          have hyb : ((y.toNat : Int) != 0) = true := by rw [bne_iff_ne]; exact hyn
          obtain ⟨w6, hw6⟩ : ∃ w6, w5.setCell ⟨w2.heap.size, p, none⟩ (.bool true) = w6 := ⟨_, rfl⟩
          have hst := HBR5.out.store p true
          rw [hw6] at hst
          have hne1 : g ≠ w2.heap.size := by have := HGL.out; omega
          have hne2 : wr.heap.size ≠ w2.heap.size := by have := HGH.out; omega
          have hbu6 : Buf w6 g cap W := buf_same HBU5.out (World.grownBy.block hst.2 g (by have := HQ5.out; have := HGW.out; omega) (fun e => hne1 (by cases e; rfl)))
          have hcy6 : w6.cell? ⟨wr.heap.size, 1, none⟩ = some (.int .u8 (y.toNat : Int)) := Only.cell hst.2 (p := ⟨wr.heap.size, 1, none⟩) hne2 hcy
          have hcg := hbu6.cell p (by rw [HWL.out]; exact hpl')
          have hfg := hbu6.frozen p
          have HST := Lib.hid (hbu6.store p (co W p ^^^ y))
          have HSM := Lib.hid (step_mem HWL.out HMEM.out HPL.out HPH.out hy0)
          have HBR6 : Hid (BRow w6 w2.heap.size N (fun q => decide (q ∈ p :: H))) := Lib.hid (hst.1.congr fun i _ => by
            by_cases e : i = p
            · simp [e]
            · simp [e])
          have HB6 : Hid (Below w.heap.size w w6) := Lib.hid (HB5.out.trans (Only.below hst.2 (HB2.out.size) (by have := HB5.out.size; exact this)))
          have HW6 := Lib.hid hw6
          have hx := u8c (co W p) y
          generalize co W p ^^^ y = xx at *
          generalize co W p = x at *
          have hxl := UInt8.toNat_lt x
          have hxxl := UInt8.toNat_lt xx
          have hp0 : (0 : Int) ≤ (p : Int) := by omega
          have hp1 : (p : Int) < (N : Int) := by omega
          have hwm : IntKind.i64.wrap ((H.length : Int) + 1) = (H.length : Int) + 1 := by rw [IntKind.wrap_i64]; omega
          clear hy0 hst hw6 hbu6 hcy hne1 hne2
          go_wp2_with fail
          rw [HW5.out, HW6.out]
          clear hc5 hc5' hfp hfp'
          go_region
          obtain ⟨w7, hw7⟩ : ∃ w7, (w6.setCell ⟨g, p, none⟩ (.int .u8 (xx.toNat : Int))).drew = w7 := ⟨_, rfl⟩
          have hb7 : Below (w6.setCell ⟨g, p, none⟩ (.int .u8 (xx.toNat : Int))).heap.size (w6.setCell ⟨g, p, none⟩ (.int .u8 (xx.toNat : Int))) w7 := by rw [← hw7]; exact Kit.dn' _ 1
          have HBU7 : Hid (Buf w7 g cap (W.set p xx)) := Lib.hid (HST.out.1.later hb7)
          have HBR7 : Hid (BRow w7 w2.heap.size N (fun q => decide (q ∈ p :: H))) := Lib.hid ((HBR6.out.only HST.out.2 (by have := HGL.out; omega)).later hb7)
          have HB7 : Hid (Below w.heap.size w w7) := Lib.hid (Kit.step (HB6.out.trans (Only.below HST.out.2 (by have := HB1.out.size; have := HG.out; omega) HB6.out.size)) hb7)
          have HW7 := Lib.hid hw7
          rw [hw7]
          clear hw7 hb7
          go_wp2_with fail
          go_roundw
          case rel => exact ⟨k + 1, by omega, by go_num, W.set p xx, p :: H, by go_num, by rw [List.length_set]; exact HWL.out, HBR7.out, HBU7.out, HB7.out, List.nodup_cons.2 ⟨HPH.out, HND.out⟩, by simp; omega, HSM.out, fun q hq => by
            rcases List.mem_cons.1 hq with h | h
            · rw [h]; exact HPL.out
            · exact HLT.out q h⟩
          case measure => simp [intOf]; omega
    · obtain rfl : k = zs.length := by omega
      have hch : Chg V W N [] H := ⟨HVC.out, HVN.out, hWl, hN1, ⟨fun k h => absurd h (by simp), fun i j _ h => absurd h (by simp), by simp⟩, hnd, fun p hp => ⟨hlt p hp, (hmem p (hlt p hp)).1 hp, by simp⟩, fun p hp h _ => (hmem p hp).2 h, by simp; omega⟩
      have HCH := Lib.hid hch
      have hof := of_any W (some ⟨g, 0, none⟩) cap wr hbu.row ⟨by omega, by omega⟩
      rw [hWl] at hof
      obtain ⟨s, hs⟩ : ∃ s, synL W = s := ⟨_, rfl⟩
      rw [hs] at hof
      have hsl : s.length = 32 := by rw [← hs]; simp
      obtain ⟨CS, hCS⟩ : ∃ CS, (bytesV s).toArray = CS := ⟨_, rfl⟩
      have hcs1 := one_cell s
      rw [hCS] at hof hcs1
      have HOF := Lib.hid hof
      have HSZ := Lib.hid (csyn_size hsl)
      rw [hCS] at HSZ
      have HCS1 := Lib.hid hcs1
      have HZS : Hid (Z.size = CS.size) := Lib.hid (by rw [hZs, ← hCS]; simp [hsl])
      have HS := Lib.hid hs
      have HSL := Lib.hid hsl
      have HCS := Lib.hid hCS
      have HBX := Lib.hid hb
      have HH16 : Hid (H.length ≤ 16) := Lib.hid (by omega)
      clear hch hof hs hsl hCS hcs1 hbr hbu hb hnd hmem hlt hWl
      go_wp2_with fail
      refine HOF.out.mono ?_; rintro e w8 ⟨rfl, hb⟩
      have HB8 := Lib.hid (Kit.step HBX.out hb)
      obtain ⟨w9, hw9⟩ : ∃ w9, w8.alloc (.cells Z 36) = w9 := ⟨_, rfl⟩
      have HG9 : Hid (w9.heap[w8.heap.size]? = some (.cells Z 36 (0, 0))) := Lib.hid (by rw [← hw9]; exact World.alloc_heap_new _ _)
      have HG9' : Hid ((w8.alloc (.cells Z 36)).heap[w8.heap.size]? = some (.cells Z 36 (0, 0))) := Lib.hid (World.alloc_heap_new _ _)
      obtain ⟨w10, hw10⟩ : ∃ w10, (w8.alloc (.cells Z 36)).setRow w8.heap.size CS = w10 := ⟨_, rfl⟩
      have HG10 : Hid (w10.heap[w8.heap.size]? = some (.cells CS 36 (0, 0))) := Lib.hid (by rw [← hw10]; exact setRow_heap _ _ _ _ _ _ HG9'.out)
      have HB10 : Hid (Below w.heap.size w w10) := Lib.hid (by rw [← hw10]; exact (HB8.out.alloc HB8.out.size _).trans (below_setRow HB8.out.size))
      have HW10 := Lib.hid hw10
      clear hb hw9 hw10 HOF
      go_wp2_with (first | (refine wpList_store_row rfl 36 (.tmp 12) (.tmp 93) rfl w8.heap.size CS rfl rfl 36 Z HG9'.out HSZ.out HZS.out HCS1.out ?_; rw [HW10.out]) | refine wpList_load_row rfl 36 (.tmp 12) rfl w8.heap.size rfl 36 CS (0, 0) _ HG10.out csyn_under rfl HSZ.out ?_)
      have hfi := cfi_any s [] N 0 none w10 (fun _ => ⟨0, 0, none⟩) HSL.out ⟨by simp, by simp, fun _ => rfl, fun h => by simp at h⟩ hN2 hN1 (by simp) (fun h => absurd HCH.out.ok h) (fun ⟨C, L, h1, h2⟩ => by
        rw [← HS.out] at h1
        have h3 := (HCH.out.reg h1).1
        have h4 := HCH.out.len h1
        have := HH16.out
        simp at h2
        omega) CS HCS.out
      rw [List.length_nil] at hfi
      refine hfi.mono ?_
      clear hfi
      rintro e w11 ⟨hb, ⟨⟨k, hk, _⟩, _⟩ | ⟨_, ⟨⟨i, j, _, hi, _⟩, _⟩ | ⟨_, ⟨h, _⟩ | ⟨_, C, L, hrf, ⟨h2, _⟩ | ⟨h2, h3, x1, x2, rfl, hx1, hx2⟩⟩⟩⟩⟩
      · exact absurd hk (by simp)
      · exact absurd hi (by simp)
      · exact absurd h (by simp)
      · exfalso
        rw [← HS.out] at hrf
        have h3 := (HCH.out.reg hrf).1
        have h4 := HCH.out.len hrf
        have := HH16.out
        simp at h2
        omega
      have hrf' := hrf
      rw [← HS.out] at hrf'
      have hLH := (HCH.out.reg hrf').1
      have hCL := HCH.out.len hrf'
      have hdeg := eva_deg hrf
      have hnil := eva_nil hrf
      have hve : evaL s C N [] = tr ((tr (mulL (tr s) (ertL C N []))).take (lowN 32 (tr (mulL (tr s) (ertL C N []))).length)) := rfl
      have hMl : (ertL C N []).length = L + 1 := by rw [ert_nil]; exact hCL
      have hMt : tl (ertL C N []) (ertL C N []).length = (ertL C N []).length := by
        rw [← tr_length]; unfold ertL; rw [tr_tr]
      have hVt : tl (evaL s C N []) (evaL s C N []).length = (evaL s C N []).length := by
        rw [← tr_length]; unfold evaL; rw [tr_tr]
      obtain ⟨V2, hV2⟩ : ∃ V2, evaL s C N [] = V2 := ⟨_, rfl⟩
      obtain ⟨M, hM⟩ : ∃ M, ertL C N [] = M := ⟨_, rfl⟩
      rw [hV2] at hx2 hdeg hnil hve hVt
      rw [hM] at hx1 hve hMl hMt
      rw [← hLH]
      obtain ⟨o6, c6, rfl, hx1⟩ := hx1
      obtain ⟨o9, c9, rfl, hx2⟩ := hx2
      have HLH : Hid (L = H.length) := Lib.hid hLH
      have HDEG := Lib.hid hdeg
      have HNIL := Lib.hid hnil
      have HVE := Lib.hid hve
      have HML := Lib.hid hMl
      have HMT := Lib.hid hMt
      have HVT := Lib.hid hVt
      have HL16 : Hid (L ≤ 16) := Lib.hid (by have := HH16.out; omega)
      have HB11 := Lib.hid (Kit.step HB10.out hb)
      have HG11 : Hid (w11.heap[w8.heap.size]? = some (.cells CS 36 (0, 0))) := Lib.hid (by rw [hb.block _ (Array.getElem?_eq_some_iff.1 HG10.out).1]; exact HG10.out)
      obtain ⟨w12, hw12⟩ : ∃ w12, w11.alloc (.cells #[.int .i64 (L : Int), .slice o6 M.length c6, .slice o9 V2.length c9] 46) = w12 := ⟨_, rfl⟩
      have hb12 : Below w11.heap.size w11 w12 := by rw [← hw12]; exact (Below.refl _ _).alloc (Nat.le_refl _) _
      have HF12 : Hid (w12.heap[w11.heap.size]? = some (.cells #[.int .i64 (L : Int), .slice o6 M.length c6, .slice o9 V2.length c9] 46 (0, 0))) := Lib.hid (by rw [← hw12]; exact World.alloc_heap_new _ _)
      have HB12 := Lib.hid (Kit.step HB11.out hb12)
      have HG12 : Hid (w12.heap[w8.heap.size]? = some (.cells CS 36 (0, 0))) := Lib.hid (by rw [hb12.block _ (Array.getElem?_eq_some_iff.1 HG11.out).1]; exact HG11.out)
      have HX12 := Lib.hid (hx1.later hb12)
      have HV12 := Lib.hid (hx2.later hb12)
      have HW12 := Lib.hid hw12
      have hc0 : w12.cell? ⟨w11.heap.size, 0, none⟩ = some (.int .i64 (L : Int)) := by rw [cell_of_row _ _ 0 _ _ _ HF12.out]; rfl
      have hc1 : w12.cell? ⟨w11.heap.size, 1, none⟩ = some (.slice o6 M.length c6) := by rw [cell_of_row _ _ 1 _ _ _ HF12.out]; rfl
      have hdg : Calls Tryd.prog 29 #[.slice o6 M.length c6] w12 fun e w' => e = .returned (.int .i64 (L : Int)) ∧ Below w12.heap.size w12 w' := by
        have h := deg_any o6 M c6 w12 (hx1.later hb12)
        have e : ((tl M M.length : Int) - 1) = (L : Int) := by omega
        rw [e] at h
        exact h
      rw [← hw12] at hdg
      have HDG := Lib.hid hdg
      clear hb hrf hrf' hLH hCL hdeg hnil hve hMl hMt hVt hV2 hM hx1 hx2 hw12 hb12 h2 h3 hdg HG10 HG11 HG9
      go_wp2_with fail
      refine HDG.out.mono ?_; rintro e w13 ⟨rfl, hb⟩
      rw [HW12.out] at hb
      have HB13 := Lib.hid (Kit.step HB12.out hb)
      have HG13 : Hid (w13.heap[w8.heap.size]? = some (.cells CS 36 (0, 0))) := Lib.hid (by rw [hb.block _ (Array.getElem?_eq_some_iff.1 HG12.out).1]; exact HG12.out)
      have HF13 : Hid (w13.heap[w11.heap.size]? = some (.cells #[.int .i64 (L : Int), .slice o6 M.length c6, .slice o9 V2.length c9] 46 (0, 0))) := Lib.hid (by rw [hb.block _ (Array.getElem?_eq_some_iff.1 HF12.out).1]; exact HF12.out)
      have HX13 := Lib.hid (HX12.out.later hb)
      have HV13 := Lib.hid (HV12.out.later hb)
      clear hb HDG hc0 hc1
      go_wp2_with fail
      have hS := HSL.out
      have hMb : M.length ≤ 1000 := by have := HML.out; have := HL16.out; omega
      have hsb := tr_le s
      have hPb : (tr (mulL (tr s) M)).length ≤ 100000 := by
        have h5 := tr_le (mulL (tr s) M)
        have h6 : (mulL (tr s) M).length = (tr s).length + M.length := by simp [mulL]
        omega
      have h6 := HX13.out
      have hgS : ∀ v, Below w13.heap.size w13 v → v.heap[w8.heap.size]? = some (.cells (bytesV s).toArray 36 (0, 0)) := fun v hb => by rw [HCS.out, hb.block _ (Array.getElem?_eq_some_iff.1 HG13.out).1]; exact HG13.out
      have hcF : ∀ (k : Nat) (y : Value), #[.int .i64 (L : Int), .slice o6 M.length c6, .slice o9 V2.length c9][k]? = some y → ∀ v, Below w13.heap.size w13 v → v.cell? ⟨w11.heap.size, k, none⟩ = some y := fun k y hy v hv => by
        have : v.heap[w11.heap.size]? = some (.cells #[.int .i64 (L : Int), .slice o6 M.length c6, .slice o9 V2.length c9] 46 (0, 0)) := by rw [hv.block _ (Array.getElem?_eq_some_iff.1 HF13.out).1]; exact HF13.out
        rw [cell_of_row _ _ k _ _ _ this]; exact hy
      obtain ⟨F, hF⟩ : ∃ F, w11.heap.size = F := ⟨_, rfl⟩
      rw [hF] at hcF ⊢
      have hcF0 := fun v hv => hcF 0 _ rfl v hv
      have hcF1 := fun v hv => hcF 1 _ rfl v hv
      have hcF2 := fun v hv => hcF 2 _ rfl v hv
      have HC0 := Lib.hid hcF0
      have HC1 := Lib.hid hcF1
      have HC2 := Lib.hid hcF2
      clear hcF hF
      obtain ⟨Q, hQ⟩ : ∃ Q, w8.heap.size = Q := ⟨_, rfl⟩
      rw [hQ] at hgS ⊢
      clear hQ
      refine Code.wp_mono (Q := fun e b v => e = .normal ∧ Below w13.heap.size w13 v ∧ ∃ y, RowV V2 y v ∧ ∃ f : Nat → Value, b = { tmps := #[f 0, f 1, f 2, f 3, f 4, f 5, f 6, f 7, .int .i64 (L : Int), f 9, f 10, f 11, f 12, .pointer (some ⟨F, 0, none⟩), y, f 15, f 16, f 17, f 18, f 19, f 20, f 21, f 22, f 23, f 24, f 25, f 26, f 27, f 28, f 29, f 30, f 31, f 32, f 33, f 34, f 35, f 36, f 37, f 38, f 39, f 40, f 41, f 42, f 43, f 44, f 45, f 46, f 47, f 48, f 49, f 50, f 51, f 52, f 53, f 54, f 55, f 56, f 57, f 58, f 59, f 60, f 61, f 62, f 63, f 64, f 65, f 66, f 67, f 68, f 69, f 70, f 71, f 72, f 73, f 74, f 75, f 76, f 77, f 78, f 79, f 80, f 81, f 82, f 83, f 84, f 85, f 86, f 87, f 88, f 89, f 90, f 91, f 92, f 93, f 94, f 95, f 96, f 97, f 98, f 99, f 100, f 101, f 102, f 103, f 104, f 105, f 106, f 107, f 108, f 109, f 110, f 111, f 112, f 113, f 114, f 115, f 116, f 117, f 118, f 119, f 120, f 121, f 122, f 123, f 124, f 125, f 126, f 127, f 128, f 129, f 130, f 131, f 132, f 133, f 134, f 135, f 136, f 137, f 138, f 139, f 140, f 141, f 142, f 143, f 144, f 145, f 146, f 147, f 148], defers := [] }) ?rest ?reg
      case reg =>
        refine Rg.region_grow (by kernel_rfl) (LeqG s M Q F) (by kernel_rfl) LeqG.later (Rg.gd_none (by kernel_rfl)) ?step ?fin
        case step =>
          intro i op b v ho hb hrest hdep
          have r12 : b.eval (.tmp 12) = .pointer (some ⟨Q, 0, none⟩) := hrest 12 (Rg.free_spec (by kernel_rfl))
          have r13 : b.eval (.tmp 13) = .pointer (some ⟨F, 0, none⟩) := hrest 13 (Rg.free_spec (by kernel_rfl))
          have hi := (Array.getElem?_eq_some_iff.1 ho).1
          match i, hi with
          | 0, _ =>
            obtain rfl := Option.some.inj ho
            exact does_load_row4 rfl r12 (hgS v hb) csyn_under rfl (csyn_size hS) rfl
          | 1, _ =>
            obtain rfl := Option.some.inj ho
            have d1 : (b.eval (.tmp 119)) = .agg (bytesV s).toArray := hdep ⟨0, .data⟩ (by simp) rfl _ _ rfl rfl
            exact Rg.does_fn rfl (enters_of Tryd.func32 (by kernel_rfl) rfl) (args := #[b.eval (.tmp 119)]) (by simp) (by rw [d1]; exact spoly_any s hS v)
          | 2, _ =>
            obtain rfl := Option.some.inj ho
            have d1 : b.eval (.tmp 13) = .pointer (some ⟨F, 0, none⟩) := r13
            have f1 : b.tmps[13]?.getD undef = _ := (show _ = b.eval (.tmp 13) by simp [Act.eval]).trans d1
            refine Rg.does_pure (.pointer (some ⟨F, 1, none⟩)) ?_ rfl
            simp only [execOp]
            go_simp
          | 3, _ =>
            obtain rfl := Option.some.inj ho
            have d1 : b.eval (.tmp 121) = .pointer (some ⟨F, 1, none⟩) := hdep ⟨2, .data⟩ (by simp) rfl _ _ rfl rfl
            have f1 : b.tmps[121]?.getD undef = _ := (show _ = b.eval (.tmp 121) by simp [Act.eval]).trans d1
            have hcell := hcF1 v hb
            refine Rg.does_pure (.slice o6 M.length c6) ?_ (⟨o6, c6, rfl, h6.later hb⟩)
            simp only [execOp]
            go_simp
          | 4, _ =>
            obtain rfl := Option.some.inj ho
            have d1 : RowV (tr s) (b.eval (.tmp 120)) v := hdep ⟨1, .data⟩ (by simp) rfl _ _ rfl rfl
            have d2 : RowV (M) (b.eval (.tmp 122)) v := hdep ⟨3, .data⟩ (by simp) rfl _ _ rfl rfl
            exact Rg.does_fn rfl (enters_of Tryd.func31 (by kernel_rfl) rfl) (args := #[b.eval (.tmp 120), b.eval (.tmp 122)]) (by simp) (by obtain ⟨o8, c8, e8, h8⟩ := d1; obtain ⟨o7, c7, e7, h7⟩ := d2; rw [e8, e7]; exact (mul_poly_any (tr s) M o8 o7 c8 c7 v h8 h7 (by omega)).mono fun e v' ⟨g, cap, h1, h2, h3, h4⟩ => ⟨_, h1, ⟨_, _, rfl, h4⟩, h3⟩)
          | 5, _ =>
            obtain rfl := Option.some.inj ho
            have d1 : RowV (tr (mulL (tr s) M)) (b.eval (.tmp 123)) v := hdep ⟨4, .data⟩ (by simp) rfl _ _ rfl rfl
            exact Rg.does_fn rfl (enters_of Tryd.func30 (by kernel_rfl) rfl) (args := #[b.eval (.tmp 123), .int .i64 32]) (by simp [Act.eval]) (by obtain ⟨o8, c8, e8, h8⟩ := d1; rw [e8]; exact low_any _ 32 o8 c8 v h8 (by omega))
          | 6, _ =>
            obtain rfl := Option.some.inj ho
            have d1 : RowV (tr ((tr (mulL (tr s) M)).take (lowN 32 (tr (mulL (tr s) M)).length))) (b.eval (.tmp 124)) v := hdep ⟨5, .data⟩ (by simp) rfl _ _ rfl rfl
            exact Rg.does_assign rfl d1
          | n + 7, h => exact absurd h (by simp)
        case fin =>
          intro b v hb hs hd hrest hall
          obtain ⟨y, hy⟩ : ∃ y, b.tmps.getD 14 undef = y := ⟨_, rfl⟩
          have hrow := hall 6 _ 14 rfl rfl
          rw [hy] at hrow
          refine ⟨rfl, hb, y, by rw [HVE.out]; exact hrow, fun i => b.tmps.getD i undef, ?_⟩
          have e8 : b.tmps.getD 8 undef = .int .i64 (L : Int) := hrest 8 (Rg.free_spec (by kernel_rfl))
          have e13 : b.tmps.getD 13 undef = .pointer (some ⟨F, 0, none⟩) := hrest 13 (Rg.free_spec (by kernel_rfl))
          have e := lit_of b.tmps 149 hs
          obtain ⟨tm, df⟩ := b
          obtain rfl : df = [] := hd
          dsimp only at hy e8 e13 e ⊢
          congr 1
          refine e.trans ?_
          rw [← hy, ← e8, ← e13]
          rfl
      case rest =>
        rintro e b v ⟨rfl, hb, y, hy, f, rfl⟩
        rename_i K0 hK0
        have HB14 := Lib.hid (Kit.step HB13.out hb)
        have h6 := HX13.out.later hb
        have h9 := HV13.out.later hb
        have hcF0 := fun v2 (hv : Below v.heap.size v v2) => HC0.out v2 (Kit.step hb hv)
        have hcF1 := fun v2 (hv : Below v.heap.size v v2) => HC1.out v2 (Kit.step hb hv)
        have hcF2 := fun v2 (hv : Below v.heap.size v v2) => HC2.out v2 (Kit.step hb hv)
        obtain ⟨dv, hdv0⟩ : ∃ dv : Int, (V2.length : Int) - 1 = dv := ⟨_, rfl⟩
        obtain ⟨dm, hdm0⟩ : ∃ dm : Int, (M.length : Int) - 1 = dm := ⟨_, rfl⟩
        have hdv : (tl V2 V2.length : Int) - 1 = dv := by rw [HVT.out]; exact hdv0
        have hdm : (tl M M.length : Int) - 1 = dm := by rw [HMT.out]; exact hdm0
        have hlt : dv < dm := by have := HDEG.out; have := HML.out; omega
        have hltd : decide (dv < dm) = true := decide_eq_true hlt
        obtain ⟨B, hB⟩ : ∃ B, ((V2.length : Int) == 0) = B := ⟨_, rfl⟩
        have hB2 : ((L : Int) == 0) = B := by
          have h := HNIL.out
          rw [← hB]
          by_cases h0 : L = 0
          · have h1 := h.2 h0
            rw [h0, h1]
          · have h1 : ¬ V2.length = 0 := fun h2 => h0 (h.1 h2)
            rw [beq_false_of_ne (by omega : (L : Int) ≠ 0), beq_false_of_ne (by omega : (V2.length : Int) ≠ 0)]
        have hB3 : decide ((V2.length : Int) = 0) = B := by rw [← hB]; rfl
        have hB4 : decide ((L : Int) = 0) = B := by rw [← hB2]; rfl
        show K0 _ _
        refine hK0 _ _ ?_
        clear hK0 hdv0 hdm0
        refine wp_seq ?_
        refine Rg.region_grow (by kernel_rfl) (LerqG V2 M dv dm L F B) (by kernel_rfl) LerqG.later ?gd ?step ?fin
        case gd =>
          intro i op k t ho hg x v hG
          have hi := (Array.getElem?_eq_some_iff.1 ho).1
          match i, hi with
          | 0, _ =>
            obtain rfl := Option.some.inj ho
            cases hg
          | 1, _ =>
            obtain rfl := Option.some.inj ho
            cases hg
          | 2, _ =>
            obtain rfl := Option.some.inj ho
            cases hg
          | 3, _ =>
            obtain rfl := Option.some.inj ho
            cases hg
          | 4, _ =>
            obtain rfl := Option.some.inj ho
            cases hg
          | 5, _ =>
            obtain rfl := Option.some.inj ho
            cases hg
          | 6, _ =>
            obtain rfl := Option.some.inj ho
            cases hg
          | 7, _ =>
            obtain rfl := Option.some.inj ho
            obtain ⟨rfl, rfl⟩ : 6 = k ∧ true = t := by simpa using hg
            exact hG
          | 8, _ =>
            obtain rfl := Option.some.inj ho
            obtain ⟨rfl, rfl⟩ : 6 = k ∧ true = t := by simpa using hg
            exact hG
          | 9, _ =>
            obtain rfl := Option.some.inj ho
            obtain ⟨rfl, rfl⟩ : 6 = k ∧ true = t := by simpa using hg
            exact hG
          | 10, _ =>
            obtain rfl := Option.some.inj ho
            obtain ⟨rfl, rfl⟩ : 6 = k ∧ true = t := by simpa using hg
            exact hG
          | 11, _ =>
            obtain rfl := Option.some.inj ho
            obtain ⟨rfl, rfl⟩ : 6 = k ∧ true = t := by simpa using hg
            exact hG
          | 12, _ =>
            obtain rfl := Option.some.inj ho
            obtain ⟨rfl, rfl⟩ : 6 = k ∧ true = t := by simpa using hg
            exact hG
          | 13, _ =>
            obtain rfl := Option.some.inj ho
            obtain ⟨rfl, rfl⟩ : 6 = k ∧ true = t := by simpa using hg
            exact hG
          | 14, _ =>
            obtain rfl := Option.some.inj ho
            cases hg
          | 15, _ =>
            obtain rfl := Option.some.inj ho
            cases hg
          | 16, _ =>
            obtain rfl := Option.some.inj ho
            obtain ⟨rfl, rfl⟩ : 15 = k ∧ true = t := by simpa using hg
            exact hG
          | 17, _ =>
            obtain rfl := Option.some.inj ho
            obtain ⟨rfl, rfl⟩ : 15 = k ∧ true = t := by simpa using hg
            exact hG
          | 18, _ =>
            obtain rfl := Option.some.inj ho
            obtain ⟨rfl, rfl⟩ : 15 = k ∧ true = t := by simpa using hg
            exact hG
          | 19, _ =>
            obtain rfl := Option.some.inj ho
            obtain ⟨rfl, rfl⟩ : 15 = k ∧ true = t := by simpa using hg
            exact hG
          | 20, _ =>
            obtain rfl := Option.some.inj ho
            obtain ⟨rfl, rfl⟩ : 15 = k ∧ true = t := by simpa using hg
            exact hG
          | 21, _ =>
            obtain rfl := Option.some.inj ho
            obtain ⟨rfl, rfl⟩ : 15 = k ∧ true = t := by simpa using hg
            exact hG
          | 22, _ =>
            obtain rfl := Option.some.inj ho
            obtain ⟨rfl, rfl⟩ : 15 = k ∧ true = t := by simpa using hg
            exact hG
          | 23, _ =>
            obtain rfl := Option.some.inj ho
            cases hg
          | 24, _ =>
            obtain rfl := Option.some.inj ho
            cases hg
          | n + 25, h => exact absurd h (by simp)
        case step =>
          intro i op b v ho hb hrest hdep
          have r14 : b.eval (.tmp 14) = y := hrest 14 (Rg.free_spec (by kernel_rfl))
          have r13 : b.eval (.tmp 13) = .pointer (some ⟨F, 0, none⟩) := hrest 13 (Rg.free_spec (by kernel_rfl))
          have r8 : b.eval (.tmp 8) = .int .i64 (L : Int) := hrest 8 (Rg.free_spec (by kernel_rfl))
          have hi := (Array.getElem?_eq_some_iff.1 ho).1
          match i, hi with
          | 0, _ =>
            obtain rfl := Option.some.inj ho
            have d1 : RowV (V2) (b.eval (.tmp 14)) v := by rw [r14]; exact hy.later hb
            exact Rg.does_move rfl d1
          | 1, _ =>
            obtain rfl := Option.some.inj ho
            have d1 : RowV (V2) (b.eval (.tmp 125)) v := hdep ⟨0, .data⟩ (by simp) rfl _ _ rfl rfl
            exact Rg.does_conv rfl (conv_rv d1) (rfl)
          | 2, _ =>
            obtain rfl := Option.some.inj ho
            have d1 : b.eval (.tmp 13) = .pointer (some ⟨F, 0, none⟩) := r13
            have f1 : b.tmps[13]?.getD undef = _ := (show _ = b.eval (.tmp 13) by simp [Act.eval]).trans d1
            refine Rg.does_pure (.pointer (some ⟨F, 2, none⟩)) ?_ rfl
            simp only [execOp]
            go_simp
          | 3, _ =>
            obtain rfl := Option.some.inj ho
            have d1 : b.eval (.tmp 127) = .pointer (some ⟨F, 2, none⟩) := hdep ⟨2, .data⟩ (by simp) rfl _ _ rfl rfl
            have f1 : b.tmps[127]?.getD undef = _ := (show _ = b.eval (.tmp 127) by simp [Act.eval]).trans d1
            have hcell := hcF2 v hb
            refine Rg.does_pure (.slice o9 V2.length c9) ?_ (⟨o9, c9, rfl, h9.later hb⟩)
            simp only [execOp]
            go_simp
          | 4, _ =>
            obtain rfl := Option.some.inj ho
            have d1 : RowV (V2) (b.eval (.tmp 128)) v := hdep ⟨3, .data⟩ (by simp) rfl _ _ rfl rfl
            exact Rg.does_conv rfl (conv_rv d1) (rfl)
          | 5, _ =>
            obtain rfl := Option.some.inj ho
            have d1 : (b.eval (.tmp 126)) = .string ⟨(V2).toArray⟩ := hdep ⟨1, .data⟩ (by simp) rfl _ _ rfl rfl
            have d2 : (b.eval (.tmp 129)) = .string ⟨(V2).toArray⟩ := hdep ⟨4, .data⟩ (by simp) rfl _ _ rfl rfl
            have f1 : b.tmps[126]?.getD undef = _ := (show _ = b.eval (.tmp 126) by simp [Act.eval]).trans d1
            have f2 : b.tmps[129]?.getD undef = _ := (show _ = b.eval (.tmp 129) by simp [Act.eval]).trans d2
            refine Rg.does_pure (.bool true) ?_ rfl
            have hu := Tryd.underlying9
            simp only [execOp]
            go_simp
          | 6, _ =>
            obtain rfl := Option.some.inj ho
            have d1 : (b.eval (.tmp 130)) = .bool true := hdep ⟨5, .data⟩ (by simp) rfl _ _ rfl rfl
            exact Rg.does_move rfl d1
          | 7, _ =>
            obtain rfl := Option.some.inj ho
            have d1 : b.eval (.tmp 13) = .pointer (some ⟨F, 0, none⟩) := r13
            have f1 : b.tmps[13]?.getD undef = _ := (show _ = b.eval (.tmp 13) by simp [Act.eval]).trans d1
            refine Rg.does_pure (.pointer (some ⟨F, 2, none⟩)) ?_ rfl
            simp only [execOp]
            go_simp
          | 8, _ =>
            obtain rfl := Option.some.inj ho
            have d1 : b.eval (.tmp 132) = .pointer (some ⟨F, 2, none⟩) := hdep ⟨7, .data⟩ (by simp) rfl _ _ rfl rfl
            have f1 : b.tmps[132]?.getD undef = _ := (show _ = b.eval (.tmp 132) by simp [Act.eval]).trans d1
            have hcell := hcF2 v hb
            refine Rg.does_pure (.slice o9 V2.length c9) ?_ (⟨o9, c9, rfl, h9.later hb⟩)
            simp only [execOp]
            go_simp
          | 9, _ =>
            obtain rfl := Option.some.inj ho
            have d1 : RowV (V2) (b.eval (.tmp 133)) v := hdep ⟨8, .data⟩ (by simp) rfl _ _ rfl rfl
            exact Rg.does_fn rfl (enters_of Tryd.func29 (by kernel_rfl) rfl) (args := #[b.eval (.tmp 133)]) (by simp) (by obtain ⟨o8, c8, e8, h8⟩ := d1; rw [e8]; exact (deg_any o8 V2 c8 v h8).mono fun e v' ⟨h1, h2⟩ => ⟨_, h1, by rw [hdv]; rfl, h2⟩)
          | 10, _ =>
            obtain rfl := Option.some.inj ho
            have d1 : b.eval (.tmp 13) = .pointer (some ⟨F, 0, none⟩) := r13
            have f1 : b.tmps[13]?.getD undef = _ := (show _ = b.eval (.tmp 13) by simp [Act.eval]).trans d1
            refine Rg.does_pure (.pointer (some ⟨F, 1, none⟩)) ?_ rfl
            simp only [execOp]
            go_simp
          | 11, _ =>
            obtain rfl := Option.some.inj ho
            have d1 : b.eval (.tmp 135) = .pointer (some ⟨F, 1, none⟩) := hdep ⟨10, .data⟩ (by simp) rfl _ _ rfl rfl
            have f1 : b.tmps[135]?.getD undef = _ := (show _ = b.eval (.tmp 135) by simp [Act.eval]).trans d1
            have hcell := hcF1 v hb
            refine Rg.does_pure (.slice o6 M.length c6) ?_ (⟨o6, c6, rfl, h6.later hb⟩)
            simp only [execOp]
            go_simp
          | 12, _ =>
            obtain rfl := Option.some.inj ho
            have d1 : RowV (M) (b.eval (.tmp 136)) v := hdep ⟨11, .data⟩ (by simp) rfl _ _ rfl rfl
            exact Rg.does_fn rfl (enters_of Tryd.func29 (by kernel_rfl) rfl) (args := #[b.eval (.tmp 136)]) (by simp) (by obtain ⟨o8, c8, e8, h8⟩ := d1; rw [e8]; exact (deg_any o8 M c8 v h8).mono fun e v' ⟨h1, h2⟩ => ⟨_, h1, by rw [hdm]; rfl, h2⟩)
          | 13, _ =>
            obtain rfl := Option.some.inj ho
            have d1 : (b.eval (.tmp 134)) = .int .i64 dv := hdep ⟨9, .data⟩ (by simp) rfl _ _ rfl rfl
            have d2 : (b.eval (.tmp 137)) = .int .i64 dm := hdep ⟨12, .data⟩ (by simp) rfl _ _ rfl rfl
            have f1 : b.tmps[134]?.getD undef = _ := (show _ = b.eval (.tmp 134) by simp [Act.eval]).trans d1
            have f2 : b.tmps[137]?.getD undef = _ := (show _ = b.eval (.tmp 137) by simp [Act.eval]).trans d2
            refine Rg.does_pure (.bool true) ?_ rfl
            simp only [execOp]
            go_simp
          | 14, _ =>
            obtain rfl := Option.some.inj ho
            have d1 : (b.eval (.tmp 131)) = .bool true := hdep ⟨6, .data⟩ (by simp) rfl _ _ rfl rfl
            have d2 : (b.eval (.tmp 138)) = .bool true := hdep ⟨13, .data⟩ (by simp) rfl _ _ rfl rfl
            exact Rg.does_pick rfl d1 d2
          | 15, _ =>
            obtain rfl := Option.some.inj ho
            have d1 : (b.eval (.tmp 139)) = .bool true := hdep ⟨14, .data⟩ (by simp) rfl _ _ rfl rfl
            exact Rg.does_move rfl d1
          | 16, _ =>
            obtain rfl := Option.some.inj ho
            have d1 : b.eval (.tmp 13) = .pointer (some ⟨F, 0, none⟩) := r13
            have f1 : b.tmps[13]?.getD undef = _ := (show _ = b.eval (.tmp 13) by simp [Act.eval]).trans d1
            refine Rg.does_pure (.pointer (some ⟨F, 2, none⟩)) ?_ rfl
            simp only [execOp]
            go_simp
          | 17, _ =>
            obtain rfl := Option.some.inj ho
            have d1 : b.eval (.tmp 141) = .pointer (some ⟨F, 2, none⟩) := hdep ⟨16, .data⟩ (by simp) rfl _ _ rfl rfl
            have f1 : b.tmps[141]?.getD undef = _ := (show _ = b.eval (.tmp 141) by simp [Act.eval]).trans d1
            have hcell := hcF2 v hb
            refine Rg.does_pure (.slice o9 V2.length c9) ?_ (⟨o9, c9, rfl, h9.later hb⟩)
            simp only [execOp]
            go_simp
          | 18, _ =>
            obtain rfl := Option.some.inj ho
            have d1 : RowV (V2) (b.eval (.tmp 142)) v := hdep ⟨17, .data⟩ (by simp) rfl _ _ rfl rfl
            obtain ⟨o3, c3, e3, hr3⟩ := d1
            have f1 : b.tmps[142]?.getD undef = _ := (show _ = b.eval (.tmp 142) by simp [Act.eval]).trans e3
            refine Rg.does_pure (.int .i64 ((V2).length : Int)) ?_ rfl
            simp only [execOp]
            go_simp
          | 19, _ =>
            obtain rfl := Option.some.inj ho
            have d1 : (b.eval (.tmp 143)) = .int .i64 ((V2).length : Int) := hdep ⟨18, .data⟩ (by simp) rfl _ _ rfl rfl
            have f1 : b.tmps[143]?.getD undef = _ := (show _ = b.eval (.tmp 143) by simp [Act.eval]).trans d1
            refine Rg.does_pure (.bool B) ?_ rfl
            simp only [execOp]
            go_simp
          | 20, _ =>
            obtain rfl := Option.some.inj ho
            have d1 : b.eval (.tmp 8) = .int .i64 (L : Int) := r8
            exact Rg.does_move rfl d1
          | 21, _ =>
            obtain rfl := Option.some.inj ho
            have d1 : (b.eval (.tmp 145)) = .int .i64 (L : Int) := hdep ⟨20, .data⟩ (by simp) rfl _ _ rfl rfl
            have f1 : b.tmps[145]?.getD undef = _ := (show _ = b.eval (.tmp 145) by simp [Act.eval]).trans d1
            refine Rg.does_pure (.bool B) ?_ rfl
            simp only [execOp]
            go_simp
          | 22, _ =>
            obtain rfl := Option.some.inj ho
            have d1 : (b.eval (.tmp 144)) = .bool B := hdep ⟨19, .data⟩ (by simp) rfl _ _ rfl rfl
            have d2 : (b.eval (.tmp 146)) = .bool B := hdep ⟨21, .data⟩ (by simp) rfl _ _ rfl rfl
            have f1 : b.tmps[144]?.getD undef = _ := (show _ = b.eval (.tmp 144) by simp [Act.eval]).trans d1
            have f2 : b.tmps[146]?.getD undef = _ := (show _ = b.eval (.tmp 146) by simp [Act.eval]).trans d2
            refine Rg.does_pure (.bool true) ?_ rfl
            simp only [execOp]
            go_simp
          | 23, _ =>
            obtain rfl := Option.some.inj ho
            have d1 : (b.eval (.tmp 140)) = .bool true := hdep ⟨15, .data⟩ (by simp) rfl _ _ rfl rfl
            have d2 : (b.eval (.tmp 147)) = .bool true := hdep ⟨22, .data⟩ (by simp) rfl _ _ rfl rfl
            exact Rg.does_pick rfl d1 d2
          | 24, _ =>
            obtain rfl := Option.some.inj ho
            have d1 : (b.eval (.tmp 148)) = .bool true := hdep ⟨23, .data⟩ (by simp) rfl _ _ rfl rfl
            exact Rg.does_assign rfl d1
          | n + 25, h => exact absurd h (by simp)
        case fin =>
          intro b v2 hb2 hs hd hrest hall
          have h4 : b.tmps.getD 4 undef = .bool true := hall 24 _ 4 rfl rfl
          have HB := Lib.hid (Kit.step HB14.out hb2)
          go_wp2
          refine bodyPost_ret (results_tmp rfl _ _ _) hd ?_
          exact ⟨by rw [h4], HB.out⟩
set_option maxRecDepth 100000 in
set_option maxHeartbeats 4000000 in
theorem leq_long (m k : Nat) (o oz : Option Addr) (c cz : Nat) (w : World) (h : 223 < m ∨ 16 < k) (hm : m ≤ 9223372036854775807) (hk : k ≤ 9223372036854775807) :
    Calls Tryd.prog 7 #[.slice o m c, .slice oz k cz] w fun e w' => e = .returned (.bool true) ∧ Below w.heap.size w w' := by
  by_cases h1 : 223 < m
  · have hd1 : decide ((223 : Int) < (m : Int)) = true := decide_eq_true (by omega)
    clear h h1
    go_enter Tryd.func7, Tryd.ntmps7
    go_wp2_with fail
    refine (alive4_any _).mono ?_; rintro e w1 ⟨rfl, hb⟩
    have HB := Lib.hid hb
    clear hb
    go_wp2_with fail
    go_ret
    exact ⟨rfl, HB.out⟩
  · have hd1 : decide ((223 : Int) < (m : Int)) = false := decide_eq_false (by omega)
    have hd2 : decide ((16 : Int) < (k : Int)) = true := decide_eq_true (by omega)
    clear h h1
    go_enter Tryd.func7, Tryd.ntmps7
    go_wp2_with fail
    refine (alive4_any _).mono ?_; rintro e w1 ⟨rfl, hb⟩
    have HB := Lib.hid hb
    clear hb
    go_wp2_with fail
    go_ret
    exact ⟨rfl, HB.out⟩
set_option maxRecDepth 100000 in
set_option maxHeartbeats 4000000 in
theorem leq_zero (k : Nat) (o oz : Option Addr) (c cz : Nat) (w : World) (p : Addr) (hE : w.cell? ⟨0, 0, none⟩ = some (.iface 122 (.pointer (some p)))) (hk : k ≤ 16) :
    Calls Tryd.prog 7 #[.slice o 0 c, .slice oz k cz] w fun e w' => e = .returned (.bool true) ∧ Below w.heap.size w w' := by
  have hd2 : decide ((16 : Int) < (k : Int)) = false := decide_eq_false (by omega)
  have HE := Lib.hid hE
  clear hE
  go_enter Tryd.func7, Tryd.ntmps7
  go_wp2_with fail
  refine (alive4_any _).mono ?_; rintro e w1 ⟨rfl, hb⟩
  have HB := Lib.hid hb
  have HEN := Lib.hid (encode_size 0 c o w1 p (glob_later HE.out hb) (.inl (by omega)) (by omega))
  clear hb
  go_wp2_with fail
  refine HEN.out.mono ?_; rintro e w2 ⟨rfl, hb⟩
  have HB2 := Lib.hid (Kit.step HB.out hb)
  clear hb HEN
  go_wp2_with fail
  go_ret
  exact ⟨rfl, HB2.out⟩
theorem leq_walk (d : List UInt8) (zs : List (Int × UInt8)) (o oz : Option Addr) (c cz : Nat) (w : World) (p : Addr) (hE : w.cell? ⟨0, 0, none⟩ = some (.iface 122 (.pointer (some p)))) (hP : RowIs w o (bytesV d) c) (hZ : PairsIs w oz zs cz) :
    Calls Tryd.prog 7 #[.slice o d.length c, .slice oz zs.length cz] w fun e w' => e = .returned (.bool true) ∧ Below w.heap.size w w' := by
  have h1 := hP.le
  have h2 := hP.cap
  have h3 := hZ.le
  have h4 := hZ.cap
  simp only [bytesV_length] at h1
  unfold maxLen at h2 h4
  by_cases h : 223 < d.length ∨ 16 < zs.length
  · exact leq_long _ _ o oz c cz w h (by omega) (by omega)
  · by_cases h0 : d.length = 0
    · rw [h0]
      exact leq_zero _ o oz c cz w p hE (by omega)
    · exact leq_main _ czero_syn (by simp [zsyn]) d zs o oz c cz w hP hZ (by omega) (by omega) (by omega)
end Go.Proofs.YtoefhhkemljjdaaDoor
