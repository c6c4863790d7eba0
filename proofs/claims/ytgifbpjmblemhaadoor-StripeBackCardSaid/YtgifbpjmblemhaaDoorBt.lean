/- Bent. -/
import Derived.Test.YtgifbpjmblemhaaDoorBh
namespace Go.Proofs.YtgifbpjmblemhaaDoor
open Go.RowKit
set_option linter.unusedVariables false
set_option linter.unusedSimpArgs false
theorem atG_mono2 (l : List Nat) (k d : Nat) (h : k + d ≤ l.length) : atG l k ≤ atG l (k + d) := by
  induction d with
  | zero => exact Nat.le_refl _
  | succ d ih =>
    have h1 := atG_succ l (k + d) (by omega)
    have h2 := ih (by omega)
    have h3 : atG l (k + (d + 1)) = atG l (k + d + 1) := rfl
    omega
def BtAt1 (B : List (List UInt8)) (w : World) (v iv : Value) (wr : World) : Prop :=
  ∃ (k : Nat) (Gb Gc : Nat → Nat), k ≤ B.length ∧ iv = .int .i64 k ∧ BtB wr w.heap.size k v Gb Gc B ∧ Below w.heap.size w wr
/-- what is known of the hits so far -/
structure Pl (B : List (List UInt8)) (l : List Nat) (N : Nat) (m : Nat → List UInt8) (e s : Nat → Bool) (L : Nat → Nat) (k : Nat) : Prop where
  same : ∀ i, i < N → s i = false → e i = false ∧ m i = bi B i
  wt : ∀ g, g < l.length → wtG (btL m e N) B l g ≤ L g
  bd : ∀ g, g < l.length → L g ≤ 2 * k
theorem Pl.start (B : List (List UInt8)) (l : List Nat) (N : Nat) (hN : N = sumN l + 32 * l.length) (h8 : ∀ i, i < N → (bi B i).length = 8) : Pl B l N (bi B) (fun _ => false) (fun _ => false) (fun _ => 0) 0 := by
  refine ⟨fun i _ _ => ⟨rfl, rfl⟩, fun g hg => ?_, fun g _ => by omega⟩
  unfold wtG
  rw [wtN_zero _ (fun i hi => ?_)]
  · omega
  · have := atG_le l g hg
    rw [bi_btL _ _ _ _ (by omega)]
    unfold cost
    simp [h8 _ (show atG l g + i < N by omega)]
theorem Pl.later {B : List (List UInt8)} {l : List Nat} {N : Nat} {m : Nat → List UInt8} {e s : Nat → Bool} {L : Nat → Nat} {k : Nat} (h : Pl B l N m e s L k) : Pl B l N m e s L (k + 1) := ⟨h.same, h.wt, fun g hg => by have := h.bd g hg; omega⟩
/-- a hit at place a of group g -/
theorem Pl.hit {B : List (List UInt8)} {l : List Nat} {N : Nat} {m m' : Nat → List UInt8} {e e' s : Nat → Bool} {L : Nat → Nat} {k g a p c : Nat} (h : Pl B l N m e s L k) (hN : N = sumN l + 32 * l.length) (hg : g < l.length) (ha : a < szG l g + 32) (hp : atG l g + a = p) (h8 : (bi B p).length = 8) (hs : s p = false)
    (hm : ∀ i, i ≠ p → m' i = m i) (he : ∀ i, i ≠ p → e' i = e i) (hc : cost (if e' p then [] else m' p) (bi B p) ≤ c) (hc2 : c ≤ 2) : Pl B l N m' e' (fun i => if i = p then true else s i) (fun i => if i = g then L i + c else L i) (k + 1) := by
  refine ⟨fun i hi hsi => ?_, fun q hq => ?_, fun q hq => ?_⟩
  · by_cases x : i = p
    · rw [if_pos x] at hsi
      cases hsi
    · rw [if_neg x] at hsi
      rw [he i x, hm i x]
      exact h.same i hi hsi
  · have hle := atG_le l q hq
    have hle2 := atG_le l g hg
    have h1 := h.wt q hq
    have hoth : ∀ i, i < szG l q + 32 → atG l q + i ≠ p → cost (bi (btL m' e' N) (atG l q + i)) (bi B (atG l q + i)) = cost (bi (btL m e N) (atG l q + i)) (bi B (atG l q + i)) := fun i hi hne => by
      rw [bi_btL _ _ _ _ (by omega), bi_btL _ _ _ _ (by omega), hm _ hne, he _ hne]
    by_cases x : q = g
    · subst x
      rw [if_pos rfl]
      have h2 : wtG (btL m' e' N) B l q ≤ wtG (btL m e N) B l q + c := by
        unfold wtG
        refine wtN_put _ a c ha (fun i hi hne => hoth i hi (by omega)) ?_
        rw [hp, bi_btL _ _ _ _ (by omega)]
        omega
      omega
    · rw [if_neg x]
      have h2 : wtG (btL m' e' N) B l q = wtG (btL m e N) B l q := by
        unfold wtG
        refine wtN_congr _ fun i hi => hoth i hi fun y => x ?_
        rcases Nat.lt_trichotomy q g with z | z | z
        · have := atG_mono2 l (q + 1) (g - (q + 1)) (by omega)
          rw [show q + 1 + (g - (q + 1)) = g by omega] at this
          have := atG_succ l q hq
          omega
        · exact z
        · have := atG_mono2 l (g + 1) (q - (g + 1)) (by omega)
          rw [show g + 1 + (q - (g + 1)) = q by omega] at this
          have := atG_succ l g hg
          omega
      omega
  · have := h.bd q hq
    split <;> omega
def BtAt2 (B : List (List UInt8)) (l : List Nat) (N M gO capO gS gL : Nat) (Gb Gc : Nat → Nat) (w : World) (iv : Value) (wr : World) : Prop :=
  ∃ (k : Nat) (m : Nat → List UInt8) (e s : Nat → Bool) (L : Nat → Nat), k ≤ M ∧ iv = .int .i64 k ∧ BtM wr w.heap.size gO capO N Gb Gc m e ∧ BRow wr gS N s ∧ HRow wr gL l.length 3 (fun g => .int .i64 (L g : Nat)) ∧ Below w.heap.size w wr ∧ Pl B l N m e s L k
def BtAt3 (l : List Nat) (p : Nat) (w : World) (gv av : Value) (wr : World) : Prop :=
  ∃ g a : Nat, g < l.length ∧ atG l g + a = p ∧ gv = .int .i64 g ∧ av = .int .i64 a ∧ wr = w
def BtAt4 (N p gO capO gS gL hq n : Nat) (Gb Gc : Nat → Nat) (m : Nat → List UInt8) (e s : Nat → Bool) (f : Nat → Value) (C : Array Value) (w : World) (jv : Value) (wr : World) : Prop :=
  ∃ (j : Nat) (r : List UInt8), j ≤ 8 ∧ jv = .int .i64 j ∧ BtM wr w.heap.size gO capO N Gb Gc (fun i => if i = p then r else m i) e ∧ BRow wr gS N s ∧ HRow wr gL n 3 f ∧ wr.heap[hq]? = some (.cells C 68 (0, 0)) ∧ Below w.heap.size w wr
def BtAt5 (l : List Nat) (L : Nat → Nat) (w : World) (jv : Value) (wr : World) : Prop :=
  ∃ q : Nat, q ≤ l.length ∧ jv = .int .i64 q ∧ (∀ g, g < q → L g ≤ 32) ∧ wr = w
theorem hit_by {W : World} {hq j : Nat} {q : Int} {gn : Bool} {y0 y1 y2 y3 y4 y5 y6 y7 : UInt8} (h : W.heap[hq]? = some (.cells #[.int .i64 q, .bool gn, .int .u8 (y0.toNat : Int), .int .u8 (y1.toNat : Int), .int .u8 (y2.toNat : Int), .int .u8 (y3.toNat : Int), .int .u8 (y4.toNat : Int), .int .u8 (y5.toNat : Int), .int .u8 (y6.toNat : Int), .int .u8 (y7.toNat : Int)] 68 (0, 0))) (hj : j < 8) : ∃ x : UInt8, W.cell? ⟨hq, 2 + j, none⟩ = some (.int .u8 (x.toNat : Int)) := by
  rw [cell_of_row _ _ _ _ _ _ h]
  match j, hj with
  | 0, _ => exact ⟨y0, rfl⟩
  | 1, _ => exact ⟨y1, rfl⟩
  | 2, _ => exact ⟨y2, rfl⟩
  | 3, _ => exact ⟨y3, rfl⟩
  | 4, _ => exact ⟨y4, rfl⟩
  | 5, _ => exact ⟨y5, rfl⟩
  | 6, _ => exact ⟨y6, rfl⟩
  | 7, _ => exact ⟨y7, rfl⟩
theorem natI_at {l : List Nat} {W : World} {b off c : Nat} (h : RowIs W (some ⟨b, off, none⟩) (intsV (natI l)) c) (k : Nat) (hk : k < l.length) : W.cell? ⟨b, off + k, none⟩ = some (.int .i64 ((szG l k : Nat) : Int)) := by
  obtain ⟨b', off', e, _, hc⟩ := natI_cell h k hk
  cases e
  exact hc
theorem heap_only {W W' : World} {k g : Nat} {C D : Array Value} {T T' : TypeId} {f f' : Nat × Nat} (ho : Only k W W') (hk : W.heap[k]? = some (.cells C T f)) (hg : W.heap[g]? = some (.cells D T' f')) (hT : T ≠ T') : W'.heap[g]? = some (.cells D T' f') := by
  rw [World.grownBy.block ho g (Array.getElem?_eq_some_iff.1 hg).1 (fun q => by
    cases q
    rw [hk] at hg
    cases hg
    exact hT rfl)]
  exact hg
set_option maxRecDepth 100000 in
set_option maxHeartbeats 4000000 in
theorem bent_any (B : List (List UInt8)) (n N c cz M : Nat) (l : List Nat) (hlq : shp n = l) (o oz : Option Addr) (zs : List HitT) (w : World) (hP : RbIs w o B c) (hN : B.length = N) (hT : N = sumN l + 32 * l.length) (hn : n ≤ 2000) (h8 : ∀ i, i < N → (bi B i).length = 8) (hZ : HitsIs w oz zs cz) (hM : zs.length = M) (hz : M ≤ 80) :
    Calls Tryd.prog 21 #[.slice o N c, .int .i64 (n : Int), .slice oz M cz] w fun e w' => Below w.heap.size w w' ∧ ∃ (v : Value) (ok : Bool), e = .returned (.tuple #[v, .bool ok]) ∧ (ok = true → ∃ a, a.length = N ∧ RbV a v w' ∧ ∀ g, g < l.length → wtG a B l g ≤ 32) := by
  have hnb := nbk_bd n hn
  have hnp := nbk_pos n
  have hll := shp_len n
  have hss := shp_sum n
  rw [hlq] at hll hss
  have hs := rshape_any n w hn
  rw [hlq] at hs
  have HS := Lib.hid hs
  have HP := Lib.hid hP
  have HN := Lib.hid hN
  have HT := Lib.hid hT
  have H8 := Lib.hid h8
  have HZ := Lib.hid hZ
  have HM := Lib.hid hM
  have hNb : N ≤ 400 := by omega
  have hN0 : 0 < N := by omega
  have hp1 := hP.le.1
  have hp2 := hP.le.2
  rw [hN] at hp1
  unfold maxLen at hp2
  have hbe : ((N : Int) == 0) = false := beq_false_of_ne (by omega)
  have hde : decide ((N : Int) = 0) = false := decide_eq_false (by omega)
  have hz1 := hZ.le
  have hz2 := hZ.cap
  rw [hM] at hz1
  unfold maxLen at hz2
  clear hP hN hT h8 hZ hM hlq hs hss
  go_enter Tryd.func21, Tryd.ntmps21
  go_wp2_with fail
  refine HS.out.mono ?_; rintro e w2 ⟨x, rfl, ⟨o1, c1, rfl, hr⟩, hb2⟩
  obtain ⟨b1, off1, rfl, _, _⟩ := natI_cell hr 0 (by omega)
  have hc1 := hr.cap
  have hle1 := hr.le
  simp at hle1
  unfold maxLen at hc1
  have HR2 := Lib.hid hr
  have HB2 := Lib.hid hb2
  rw [natI_length]
  clear hr hb2 HS
  obtain ⟨w3, hw3⟩ : ∃ w3, w2.alloc (.cells #[] 22) = w3 := ⟨_, rfl⟩
  have hb3 : Below w2.heap.size w2 w3 := by rw [← hw3]; exact below_new _ _
  have HB3 := Lib.hid hb3
  have HO3 : Hid (BtB w3 w2.heap.size 0 (.slice (some ⟨w2.heap.size, 0, none⟩) 0 0) (fun _ => 0) (fun _ => 0) B) := Lib.hid ⟨by rw [← hw3]; exact World.ownsRow_lit w2 #[] 0 (Nat.le_refl _) (Nat.zero_le _) rfl, fun i hi => absurd hi (by omega), fun i j hi => absurd hi (by omega)⟩
  have HW3 := Lib.hid hw3
  clear hb3 hw3
  go_wp2_with (rw [HW3.out])
  go_loopw [10, 12, 39] (fun v _ iv wr => BtAt1 B w2 v iv wr) (fun _ _ iv _ => N - (intOf iv).toNat)
  case atStart => exact ⟨0, _, _, Nat.zero_le _, rfl, HO3.out, HB3.out⟩
  case round =>
    clear HO3 HW3 HB3
    obtain ⟨k, Gb, Gc, hk, rfl, hbt, hb⟩ := hrel
    rw [HN.out] at hk
    have HBT := Lib.hid hbt
    have HB4 := Lib.hid hb
    by_cases hlt : k < N
    · obtain ⟨b, off, p, q, rfl, _, hc, hrr⟩ := (HP.out.later (Kit.step HB2.out hb)).cell k (by rw [HN.out]; exact hlt)
      rw [H8.out k hlt] at hc
      have hk0 : (0 : Int) ≤ (k : Int) := by omega
      have hk1 : (k : Int) < (N : Int) := by omega
      have HRR := Lib.hid hrr
      have HL8 := Lib.hid (H8.out k hlt)
      obtain ⟨w5, hw5⟩ : ∃ w5, wr.alloc (.cells #[] 5) = w5 := ⟨_, rfl⟩
      have hb5 : Below wr.heap.size wr w5 := by rw [← hw5]; exact below_new _ _
      have HO5 : Hid (w5.ownsRow wr.heap.size 5 1 (.slice (some ⟨wr.heap.size, 0, none⟩) 0 0) 0 (bytesV [])) := Lib.hid (by rw [← hw5]; exact World.ownsRow_lit wr #[] 0 (Nat.le_refl _) (Nat.zero_le _) rfl)
      have HRR5 := Lib.hid (hrr.later hb5)
      have HB5 := Lib.hid hb5
      have HW5 := Lib.hid hw5
      clear hrr hbt hb hb5 hw5
      go_wp2_with (first | rw [HW5.out] | (at_builtin; refine append_row rfl (.tmp 44) (.tmp 45) rfl wr.heap.size _ 0 [] rfl HO5.out p 8 q (bi B k) rfl HL8.out.symm HRR5.out (by omega) HB5.out.size ?_))
      intro v6 w6 hv6 hg6
      obtain ⟨g, cap, rfl, hgb, hbu⟩ := own_buf hv6 (by omega) HL8.out.symm
      have hb6 := own_below (n := 0) HB5.out HO5.out hg6
      rw [HL8.out]
      obtain ⟨w7, hw7⟩ : ∃ w7, w6.alloc (.cells #[.slice (some ⟨g, 0, none⟩) 8 cap] 22) = w7 := ⟨_, rfl⟩
      have hb7 : Below w6.heap.size w6 w7 := by rw [← hw7]; exact below_new _ _
      have hrow7 : RowIs w7 (some ⟨w6.heap.size, 0, none⟩) [.slice (some ⟨g, 0, none⟩) 8 cap] 1 := by
        refine ⟨by simp, by unfold maxLen; omega, (fun h => by cases h), fun _ => ⟨w6.heap.size, 0, rfl, by rw [← hw7]; simp, fun j x hx => ?_⟩⟩
        have hj : j = 0 := by
          have := (List.getElem?_eq_some_iff.1 hx).1
          simp at this
          exact this
        subst hj
        simp at hx
        subst hx
        rw [← hw7]
        exact cell_new w6 _ _ _ rfl
      have h7 := (HBT.out.later hb6).later hb7
      have HROW7 := Lib.hid hrow7
      have HBT7 := Lib.hid h7
      have HBU7 := Lib.hid (hbu.later hb7)
      have HGB := Lib.hid hgb
      have HB7 := Lib.hid (Kit.step (Kit.step HB4.out hb6) hb7)
      have HW7 := Lib.hid hw7
      clear hv6 hg6 hbu hgb hb6 hb7 hw7 hrow7 h7
      go_wp2_with (first | rw [HW7.out] | (at_builtin; refine append_rowsH rfl (.tmp 43) (.tmp 47) rfl w2.heap.size _ k _ rfl HBT7.out.outer (some ⟨w6.heap.size, 0, none⟩) 1 1 [.slice (some ⟨g, 0, none⟩) 8 cap] rfl rfl HROW7.out (by simp [Value.oneCell']) (by omega) HB7.out.size ?_))
      intro v8 w8 hv8 hg8
      have hb8 := own_belowB HB7.out HBT7.out.outer hg8
      obtain ⟨o8, l8, c8, rfl⟩ := own_slice hv8
      have h8' := BtB.grow HBT.out HBT7.out HBU7.out HGB.out HB4.out.size hv8 hg8
      have HB8 := Lib.hid hb8
      have HBT8 := Lib.hid h8'
      clear hv8 hg8 hb8 h8'
      go_wp2_with fail
      go_roundw
      case rel => exact ⟨k + 1, _, _, by rw [HN.out]; omega, by go_num, HBT8.out, HB8.out⟩
      case measure => simp [intOf]; omega
    · obtain rfl : N = k := by omega
      obtain ⟨gO, capO, rfl, hm⟩ := hbt.mat hN0 H8.out
      have hmk := make_bools4 N (by omega)
      have hmi := make_ints4 l.length (by omega)
      obtain ⟨w4, hw4⟩ : ∃ w4, wr.alloc (.cells (Array.replicate N (.bool false)) 4) = w4 := ⟨_, rfl⟩
      have hb4 : Below wr.heap.size wr w4 := by rw [← hw4]; exact below_new _ _
      have hbr4 : BRow w4 wr.heap.size N (fun _ => false) := by rw [← hw4]; exact brow_new wr N
      obtain ⟨w5, hw5⟩ : ∃ w5, w4.alloc (.cells (Array.replicate l.length (.int .i64 0)) 3) = w5 := ⟨_, rfl⟩
      have hb5 : Below w4.heap.size w4 w5 := by rw [← hw5]; exact below_new _ _
      have hhr5 : HRow w5 w4.heap.size l.length 3 (fun _ => .int .i64 0) := by rw [← hw5]; exact hrow_rep w4 _ _ _
      have hgl : wr.heap.size ≠ w4.heap.size := by have := hbr4.lt; omega
      obtain ⟨gS, hgS⟩ : ∃ gS, wr.heap.size = gS := ⟨_, rfl⟩
      obtain ⟨gL, hgL⟩ : ∃ gL, w4.heap.size = gL := ⟨_, rfl⟩
      have hsz := hb.size
      rw [hgS] at hbr4 hgl hsz
      rw [hgL] at hhr5 hgl
      have hsl : w2.heap.size ≤ gL := by have := hb4.size; omega
      have HST : Hid (BtAt2 B l N M gO capO gS gL Gb Gc w2 (.int .i64 ((0 : Nat) : Int)) w5) := Lib.hid ⟨0, bi B, fun _ => false, fun _ => false, fun _ => 0, Nat.zero_le _, rfl, (hm.later hb4).later hb5, hbr4.later hb5, hhr5, Kit.step (Kit.step hb hb4) hb5, Pl.start B l N HT.out H8.out⟩
      have HGS := Lib.hid hgS
      have HGL := Lib.hid hgL
      have HW4 := Lib.hid hw4
      have HW5 := Lib.hid hw5
      have HNE := Lib.hid hgl
      have HSS := Lib.hid hsz
      have HSL := Lib.hid hsl
      have hRB := Lib.hid (Kit.step (Kit.step hb hb4) hb5)
      clear hbt hb hm hb4 hbr4 hw4 hb5 hhr5 hw5 hgl hgS hgL hsz hsl HBT HB4
      go_wp2_with (first | rw [HW4.out] | rw [HW5.out])
      rw [HGS.out, HGL.out]
      clear HGS HGL HW4 HW5
      go_loopw [16, 17, 18, 19, 20, 58] (fun _ _ _ _ _ iv wr => BtAt2 B l N M gO capO gS gL Gb Gc w2 iv wr) (fun _ _ _ _ _ iv _ => M - (intOf iv).toNat)
      case atStart => exact HST.out
      case round =>
        clear HST
        rename World => W2
        obtain ⟨k, m, e, s, L, hk, rfl, hbm, hbr, hhr, hb, hpl⟩ := hrel
        by_cases hlt : k < M
        · obtain ⟨b, off, rfl, hblt, hcells⟩ := (HZ.out.later (Kit.step HB2.out hb)).cells (by rw [HM.out]; omega)
          have hh := hcells k (by rw [HM.out]; omega)
          obtain ⟨z, hzq⟩ : ∃ z, zs.getD k default = z := ⟨_, rfl⟩
          rw [hzq] at hh
          obtain ⟨q, gn, y⟩ := z
          have hqa : -9223372036854775808 ≤ q := hh.lo
          have hqb : q ≤ 9223372036854775807 := hh.hi
          have hc0 : W2.cell? ⟨b, off + k * 10, none⟩ = some (.int .i64 q) := hh.c0
          have hc1 : W2.cell? ⟨b, off + k * 10 + 1, none⟩ = some (.bool gn) := hh.c1
          obtain ⟨y0, hy0⟩ : ∃ y0, co y 0 = y0 := ⟨_, rfl⟩
          obtain ⟨y1, hy1⟩ : ∃ y1, co y 1 = y1 := ⟨_, rfl⟩
          obtain ⟨y2, hy2⟩ : ∃ y2, co y 2 = y2 := ⟨_, rfl⟩
          obtain ⟨y3, hy3⟩ : ∃ y3, co y 3 = y3 := ⟨_, rfl⟩
          obtain ⟨y4, hy4⟩ : ∃ y4, co y 4 = y4 := ⟨_, rfl⟩
          obtain ⟨y5, hy5⟩ : ∃ y5, co y 5 = y5 := ⟨_, rfl⟩
          obtain ⟨y6, hy6⟩ : ∃ y6, co y 6 = y6 := ⟨_, rfl⟩
          obtain ⟨y7, hy7⟩ : ∃ y7, co y 7 = y7 := ⟨_, rfl⟩
          have ha0 : W2.cell? ⟨b, off + k * 10 + 2, none⟩ = some (.int .u8 (y0.toNat : Int)) := by rw [← hy0]; exact hh.c2 0 (by omega)
          have ha1 : W2.cell? ⟨b, off + k * 10 + 3, none⟩ = some (.int .u8 (y1.toNat : Int)) := by rw [← hy1]; exact hh.c2 1 (by omega)
          have ha2 : W2.cell? ⟨b, off + k * 10 + 4, none⟩ = some (.int .u8 (y2.toNat : Int)) := by rw [← hy2]; exact hh.c2 2 (by omega)
          have ha3 : W2.cell? ⟨b, off + k * 10 + 5, none⟩ = some (.int .u8 (y3.toNat : Int)) := by rw [← hy3]; exact hh.c2 3 (by omega)
          have ha4 : W2.cell? ⟨b, off + k * 10 + 6, none⟩ = some (.int .u8 (y4.toNat : Int)) := by rw [← hy4]; exact hh.c2 4 (by omega)
          have ha5 : W2.cell? ⟨b, off + k * 10 + 7, none⟩ = some (.int .u8 (y5.toNat : Int)) := by rw [← hy5]; exact hh.c2 5 (by omega)
          have ha6 : W2.cell? ⟨b, off + k * 10 + 8, none⟩ = some (.int .u8 (y6.toNat : Int)) := by rw [← hy6]; exact hh.c2 6 (by omega)
          have ha7 : W2.cell? ⟨b, off + k * 10 + 9, none⟩ = some (.int .u8 (y7.toNat : Int)) := by rw [← hy7]; exact hh.c2 7 (by omega)
          obtain ⟨u, hu⟩ : ∃ u, (q % 18446744073709551616).toNat = u := ⟨_, rfl⟩
          have hwu : IntKind.u64.wrap q = (u : Int) := by rw [wrap_u644, hu]
          have hwn : IntKind.u64.wrap (N : Int) = (N : Int) := by rw [wrap_u644]; omega
          obtain ⟨p, hp⟩ : ∃ p, u % N = p := ⟨_, rfl⟩
          have hpl2 : p < N := by rw [← hp]; exact Nat.mod_lt _ (by omega)
          have htm : Int.tmod (u : Int) (N : Int) = (p : Int) := by rw [← hp]; rfl
          have hwp : IntKind.u64.wrap (p : Int) = (p : Int) := by rw [wrap_u644]; omega
          have hwp2 : IntKind.i64.wrap (p : Int) = (p : Int) := by rw [IntKind.wrap_i64]; omega
          have hk0 : (0 : Int) ≤ (k : Int) := by omega
          have hk1 : (k : Int) < (M : Int) := by omega
          have hN00 : ¬ (N : Int) = 0 := by omega
          have hp0 : (0 : Int) ≤ (p : Int) := by omega
          have hp1' : (p : Int) < (N : Int) := by omega
          obtain ⟨hq, hhq⟩ : ∃ hq, W2.heap.size = hq := ⟨_, rfl⟩
          obtain ⟨w6, hw6⟩ : ∃ w6, W2.alloc (.cells #[.int .i64 q, .bool gn, .int .u8 (y0.toNat : Int), .int .u8 (y1.toNat : Int), .int .u8 (y2.toNat : Int), .int .u8 (y3.toNat : Int), .int .u8 (y4.toNat : Int), .int .u8 (y5.toNat : Int), .int .u8 (y6.toNat : Int), .int .u8 (y7.toNat : Int)] 68) = w6 := ⟨_, rfl⟩
          have hb6 : Below W2.heap.size W2 w6 := by rw [← hw6]; exact below_new _ _
          have hQ6 : w6.heap[W2.heap.size]? = some (.cells #[.int .i64 q, .bool gn, .int .u8 (y0.toNat : Int), .int .u8 (y1.toNat : Int), .int .u8 (y2.toNat : Int), .int .u8 (y3.toNat : Int), .int .u8 (y4.toNat : Int), .int .u8 (y5.toNat : Int), .int .u8 (y6.toNat : Int), .int .u8 (y7.toNat : Int)] 68 (0, 0)) := by rw [← hw6]; exact World.alloc_heap_new _ _
          rw [hhq] at hQ6
          have HQ6 := Lib.hid hQ6
          have HBM := Lib.hid (hbm.later hb6)
          have HBR := Lib.hid (hbr.later hb6)
          have HHR := Lib.hid (hhr.later hb6)
          have HB6 := Lib.hid (Kit.step hb hb6)
          have HPL := Lib.hid hpl
          have HW6 := Lib.hid hw6
          have HHQ := Lib.hid hhq
          have HPP := Lib.hid hpl2
          clear hcells hh hzq hbm hbr hhr hb hpl hb6 hQ6 hw6 hhq hu hp hpl2 hy0 hy1 hy2 hy3 hy4 hy5 hy6 hy7 hblt
          go_wp2_with fail
          rw [HW6.out, HHQ.out]
          go_loopw [18, 19] (fun gv av wr => BtAt3 l p w6 gv av wr) (fun gv _ _ => l.length - (intOf gv).toNat)
          case atStart => exact ⟨0, p, by omega, by rw [atG_zero]; omega, rfl, rfl, rfl⟩
          case round =>
            obtain ⟨g, a, hg, hpa, rfl, rfl, rfl⟩ := hrel
            have hcl := natI_at (HR2.out.later HB6.out) g hg
            have hst := atG_succ l g hg
            have hle := atG_le l g hg
            rw [← HT.out] at hle
            obtain ⟨sz, hsz⟩ : ∃ sz, szG l g = sz := ⟨_, rfl⟩
            rw [hsz] at hcl hst hle
            have hg0 : (0 : Int) ≤ (g : Int) := by omega
            have hg1 : (g : Int) < (l.length : Int) := by omega
            have hpn := HPP.out
            have ha1 : a ≤ 1000 := by omega
            have hs1 : sz ≤ 1000 := by omega
            have HPA := Lib.hid hpa
            have HSZ := Lib.hid hsz
            by_cases h1 : g + 1 < l.length
            · have hd1 : decide ((g : Int) < (l.length : Int) - 1) = true := decide_eq_true (by omega)
              by_cases h2 : sz + 32 ≤ a
              · have hd2 : decide ((sz : Int) + 32 ≤ (a : Int)) = true := decide_eq_true (by omega)
                have HX : Hid (atG l (g + 1) + (a - (sz + 32)) = p) := Lib.hid (by omega)
                clear hst hle hpa hsz
                go_wp2_with fail
                go_roundw
                case rel => exact ⟨g + 1, a - (sz + 32), h1, HX.out, by go_num, by congr 1; omega, rfl⟩
                case measure => simp [intOf]; omega
              · have hd2 : decide ((sz : Int) + 32 ≤ (a : Int)) = false := decide_eq_false (by omega)
                have HA : Hid (a < szG l g + 32) := Lib.hid (by omega)
                clear hst hle hpa hsz
                by_cases hs : s p = true
                · have hcs : wr.cell? ⟨gS, p, none⟩ = some (.bool true) := by rw [← hs]; exact HBR.out.cell p HPP.out
                  clear hs
                  go_wp2_with fail
                  go_roundw
                  case rel => exact ⟨k + 1, m, e, s, L, by omega, by go_num, HBM.out, HBR.out, HHR.out, HB6.out, HPL.out.later⟩
                  case measure => simp [intOf]; omega
                · have hs' : s p = false := by simpa using hs
                  have hcs : wr.cell? ⟨gS, p, none⟩ = some (.bool false) := by rw [← hs']; exact HBR.out.cell p HPP.out
                  have hfs := HBR.out.frozen p
                  have hep := HPL.out.same p HPP.out hs'
                  have hhd : wr.cell? ⟨gO, p, none⟩ = some (.slice (some ⟨Gb p, 0, none⟩) 8 (Gc p)) := by
                    have := HBM.out.hdr p HPP.out
                    rw [hep.1] at this
                    simpa using this
                  have hst := HBR.out.store p true
                  obtain ⟨w7, hw7⟩ : ∃ w7, wr.setCell ⟨gS, p, none⟩ (.bool true) = w7 := ⟨_, rfl⟩
                  rw [hw7] at hst
                  have hbm7 := HBM.out.only hst.2 (show wr.heap[gS]? = some (.cells _ _ _) from HBR.out) (by decide) (by decide)
                  have hhr7 := HHR.out.only hst.2 (fun q => HNE.out q.symm)
                  have hq7 := heap_only hst.2 (show wr.heap[gS]? = some (.cells _ _ _) from HBR.out) HQ6.out (by decide)
                  have hsS := HSS.out
                  have hb7 := HB6.out.trans (Only.below hst.2 HSS.out HB6.out.size)
                  have hhd7 : w7.cell? ⟨gO, p, none⟩ = some (.slice (some ⟨Gb p, 0, none⟩) 8 (Gc p)) := by
                    have := hbm7.hdr p HPP.out
                    rw [hep.1] at this
                    simpa using this
                  have hfO7 := hbm7.hdrFrozen p
                  have hcg7 : w7.cell? ⟨hq, 1, none⟩ = some (.bool gn) := by rw [cell_of_row _ _ _ _ _ _ hq7]; rfl
                  have hcL7 := hhr7.cell g hg
                  have hfL7 := hhr7.frozen g
                  have HBM7 := Lib.hid hbm7
                  have HBR7 := Lib.hid hst.1
                  have HHR7 := Lib.hid hhr7
                  have HQ7 := Lib.hid hq7
                  have HB7 := Lib.hid hb7
                  have HEP := Lib.hid hep
                  have HS' := Lib.hid hs'
                  have hLb := HPL.out.bd g hg
                  have hL1 : L g ≤ 1000 := by omega
                  have HG := Lib.hid hg
                  clear hep hst hbm7 hhr7 hq7 hb7 hs hs'
                  by_cases hgn : gn = true
                  · subst hgn
                    have hst8 := HBM7.out.kill p HPP.out
                    obtain ⟨w8, hw8⟩ : ∃ w8, w7.setCell ⟨gO, p, none⟩ (.slice none 0 0) = w8 := ⟨_, rfl⟩
                    rw [hw8] at hst8
                    obtain ⟨cu, hcu⟩ := HBM7.out.outCells
                    have hhr8 : HRow w8 gL l.length 3 (fun g => .int .i64 (L g : Nat)) := heap_only hst8.2 hcu HHR7.out (by decide)
                    have hbr8 : BRow w8 gS N (fun j => if j = p then true else s j) := heap_only hst8.2 hcu HBR7.out (by decide)
                    have hb8 := HB7.out.trans (Only.below hst8.2 HBM7.out.outLt.1 HB7.out.size)
                    have hcL8 := hhr8.cell g hg
                    have hfL8 := hhr8.frozen g
                    have hst9 := hhr8.store g (.int .i64 ((L g : Int) + 1))
                    obtain ⟨w9, hw9⟩ : ∃ w9, w8.setCell ⟨gL, g, none⟩ (.int .i64 ((L g : Int) + 1)) = w9 := ⟨_, rfl⟩
                    rw [hw9] at hst9
                    have hbm9 := hst8.1.only hst9.2 (show w8.heap[gL]? = some (.cells _ _ _) from hhr8) (by decide) (by decide)
                    have hbr9 : BRow w9 gS N (fun j => if j = p then true else s j) := heap_only hst9.2 (show w8.heap[gL]? = some (.cells _ _ _) from hhr8) hbr8 (by decide)
                    have hhr9 : HRow w9 gL l.length 3 (fun j => .int .i64 ((if j = g then L j + 1 else L j : Nat) : Int)) := hst9.1.cong fun i _ => by
                      by_cases x : i = g
                      · subst x
                        simp
                      · simp [x]
                    have hb9 := hb8.trans (Only.below hst9.2 HSL.out hb8.size)
                    have hpl9 := Pl.hit (m' := m) (e' := fun i => if i = p then true else e i) (c := 1) HPL.out HT.out hg HA.out HPA.out (H8.out p HPP.out) HS'.out (fun _ _ => rfl) (fun i hi => if_neg hi) (by simp [cost]) (by omega)
                    have HBM9 := Lib.hid hbm9
                    have HBR9 := Lib.hid hbr9
                    have HHR9 := Lib.hid hhr9
                    have HB9 := Lib.hid hb9
                    have HPL9 := Lib.hid hpl9
                    have HW7 := Lib.hid hw7
                    have HW8 := Lib.hid hw8
                    have HW9 := Lib.hid hw9
                    clear hst8 hcu hhr8 hbr8 hb8 hst9 hbm9 hbr9 hhr9 hb9 hpl9 hw7 hw8 hw9
                    go_wp2_with (first | rw [HW7.out] | rw [HW8.out] | rw [HW9.out])
                    exact ⟨⟨k + 1, m, _, _, _, by omega, by go_num, HBM9.out, HBR9.out, HHR9.out, HB9.out, HPL9.out⟩, by simp [intOf]; omega⟩
                  · have hgn' : gn = false := by simpa using hgn
                    subst hgn'
                    clear hgn
                    have HW7 := Lib.hid hw7
                    clear hw7
                    go_wp2_with (rw [HW7.out])
                    go_loopw [20, 125] (fun _ jv wr => BtAt4 N p gO capO gS gL hq l.length Gb Gc m e (fun j => if j = p then true else s j) (fun g => .int .i64 (L g : Nat)) #[.int .i64 q, .bool false, .int .u8 (y0.toNat : Int), .int .u8 (y1.toNat : Int), .int .u8 (y2.toNat : Int), .int .u8 (y3.toNat : Int), .int .u8 (y4.toNat : Int), .int .u8 (y5.toNat : Int), .int .u8 (y6.toNat : Int), .int .u8 (y7.toNat : Int)] w2 jv wr) (fun _ jv _ => 8 - (intOf jv).toNat)
                    case atStart => exact ⟨0, m p, by omega, rfl, by
                      have e2 : (fun i => if i = p then m p else m i) = m := funext fun i => by
                        by_cases x : i = p
                        · rw [if_pos x, x]
                        · rw [if_neg x]
                      rw [e2]
                      exact HBM7.out, HBR7.out, HHR7.out, HQ7.out, HB7.out⟩
                    case round =>
                      rename World => W8
                      obtain ⟨j, r, hj, rfl, hbm8, hbr8, hhr8, hq8, hb8⟩ := hrel
                      by_cases hj8 : j < 8
                      · have hhd := hbm8.hdr p HPP.out
                        rw [HEP.out.1] at hhd
                        have hhd : W8.cell? ⟨gO, p, none⟩ = some (.slice (some ⟨Gb p, 0, none⟩) 8 (Gc p)) := by simpa using hhd
                        have hrw := hbm8.row p HPP.out
                        rw [if_pos rfl] at hrw
                        have hcb := hrw.1.cell j (by rw [hrw.2.2]; exact hj8)
                        have hfb := hrw.1.frozen j
                        obtain ⟨x, hcx⟩ := hit_by hq8 hj8
                        obtain ⟨rj, hrj⟩ : ∃ rj, co r j = rj := ⟨_, rfl⟩
                        rw [hrj] at hcb
                        have hst := hbm8.put p j HPP.out (rj ^^^ x)
                        rw [if_pos rfl] at hst
                        have hxr := UInt8.toNat_lt x
                        have hrr := UInt8.toNat_lt rj
                        have hbx : bits .xor .u8 (rj.toNat : Int) (x.toNat : Int) = ((rj ^^^ x).toNat : Int) := by rw [u8_xor_nat _ _ hrr hxr, UInt8.toNat_xor]
                        obtain ⟨t, ht⟩ : ∃ t, rj ^^^ x = t := ⟨_, rfl⟩
                        rw [ht] at hbx hst
                        have hj0 : (0 : Int) ≤ (j : Int) := by omega
                        have hj1 : (j : Int) < 8 := by omega
                        have hhd' : World.cell? { W8 with drawn := W8.drawn + 1 } ⟨gO, p, none⟩ = _ := hhd
                        have hcb' : World.cell? { W8 with drawn := W8.drawn + 1 } ⟨Gb p, j, none⟩ = _ := hcb
                        have hcx' : World.cell? { W8 with drawn := W8.drawn + 1 } ⟨hq, 2 + j, none⟩ = _ := hcx
                        have hfb' : World.frozen? W8.drew ⟨Gb p, j, none⟩ = _ := hfb
                        have hcb'' : World.cell? W8.drew ⟨Gb p, j, none⟩ = _ := hcb
                        have HSTQ := Lib.hid hst
                        clear hst ht
                        go_wp2_with fail
                        go_still_tail 18, (by kernel_rfl)
                        repeat still_step
                        change wpList _ _ _ _ _ (World.drew _)
                        go_wp2_with fail
                        have hw9 := HSTQ.out
                        obtain ⟨w9, hw9q⟩ : ∃ w9, W8.setCell ⟨Gb p, j, none⟩ (.int .u8 (t.toNat : Int)) = w9 := ⟨_, rfl⟩
                        rw [hw9q] at hw9 ⊢
                        obtain ⟨cu, hcu⟩ := hrw.1.cells
                        have hbr9 : BRow w9 gS N (fun j => if j = p then true else s j) := heap_only hw9.2 hcu hbr8 (by decide)
                        have hhr9 : HRow w9 gL l.length 3 (fun g => .int .i64 (L g : Nat)) := heap_only hw9.2 hcu hhr8 (by decide)
                        have hq9 := heap_only hw9.2 hcu hq8 (by decide)
                        have hb9 := hb8.trans (Only.below hw9.2 hrw.2.1 hb8.size)
                        have e9 : (fun i => if i = p then r.set j t else (if i = p then r else m i)) = fun i => if i = p then r.set j t else m i := funext fun i => by
                          by_cases x : i = p
                          · rw [if_pos x, if_pos x]
                          · rw [if_neg x, if_neg x, if_neg x]
                        have hbm9 := hw9.1
                        rw [e9] at hbm9
                        have hdw : Below w9.heap.size w9 w9.drew := (Below.refl _ _).drew
                        exact ⟨⟨j + 1, r.set j t, by omega, by go_num, hbm9.later hdw, hbr9.later hdw, hhr9.later hdw, hq9, hb9.drew⟩, by simp [intOf]; omega⟩
                      · have hj9 : (j : Int) = 8 := by omega
                        have hdj : decide ((j : Int) < 8) = false := decide_eq_false (by omega)
                        have hr8 : r.length = 8 := by
                          have := (hbm8.row p HPP.out).2.2
                          rwa [if_pos rfl] at this
                        have hcL8 := hhr8.cell g hg
                        have hfL8 := hhr8.frozen g
                        have hst9 := hhr8.store g (.int .i64 ((L g : Int) + 2))
                        obtain ⟨w9, hw9⟩ : ∃ w9, W8.setCell ⟨gL, g, none⟩ (.int .i64 ((L g : Int) + 2)) = w9 := ⟨_, rfl⟩
                        rw [hw9] at hst9
                        have hbm9 := hbm8.only hst9.2 (show W8.heap[gL]? = some (.cells _ _ _) from hhr8) (by decide) (by decide)
                        have hbr9 : BRow w9 gS N (fun j => if j = p then true else s j) := heap_only hst9.2 (show W8.heap[gL]? = some (.cells _ _ _) from hhr8) hbr8 (by decide)
                        have hhr9 : HRow w9 gL l.length 3 (fun j => .int .i64 ((if j = g then L j + 2 else L j : Nat) : Int)) := hst9.1.cong fun i _ => by
                          by_cases x : i = g
                          · subst x
                            simp
                          · simp [x]
                        have hb9 := hb8.trans (Only.below hst9.2 HSL.out hb8.size)
                        have hpl9 := Pl.hit (m' := fun i => if i = p then r else m i) (e' := e) (c := 2) HPL.out HT.out hg HA.out HPA.out (H8.out p HPP.out) HS'.out (fun i hi => if_neg hi) (fun _ _ => rfl) (by
                          rw [HEP.out.1, if_neg (by simp), if_pos rfl]
                          unfold cost
                          rw [if_pos hr8]
                          split <;> omega) (by omega)
                        have HBM9 := Lib.hid hbm9
                        have HBR9 := Lib.hid hbr9
                        have HHR9 := Lib.hid hhr9
                        have HB9 := Lib.hid hb9
                        have HPL9 := Lib.hid hpl9
                        have HW9 := Lib.hid hw9
                        clear hbm8 hbr8 hhr8 hq8 hb8 hst9 hbm9 hbr9 hhr9 hb9 hpl9 hw9 hr8 hj9 hj8
                        go_wp2_with (rw [HW9.out])
                        exact ⟨⟨k + 1, _, _, _, _, by omega, by go_num, HBM9.out, HBR9.out, HHR9.out, HB9.out, HPL9.out⟩, by simp [intOf]; omega⟩
            · have hd1 : decide ((g : Int) < (l.length : Int) - 1) = false := decide_eq_false (by omega)
              have HA : Hid (a < szG l g + 32) := Lib.hid (by
                have h3 : g + 1 = l.length := by omega
                have h4 := atG_all l
                rw [← HT.out] at h4
                rw [← h3] at h4
                omega)
              clear hst hle hpa hsz
              by_cases hs : s p = true
              · have hcs : wr.cell? ⟨gS, p, none⟩ = some (.bool true) := by rw [← hs]; exact HBR.out.cell p HPP.out
                clear hs
                go_wp2_with fail
                go_roundw
                case rel => exact ⟨k + 1, m, e, s, L, by omega, by go_num, HBM.out, HBR.out, HHR.out, HB6.out, HPL.out.later⟩
                case measure => simp [intOf]; omega
              · have hs' : s p = false := by simpa using hs
                have hcs : wr.cell? ⟨gS, p, none⟩ = some (.bool false) := by rw [← hs']; exact HBR.out.cell p HPP.out
                have hfs := HBR.out.frozen p
                have hep := HPL.out.same p HPP.out hs'
                have hhd : wr.cell? ⟨gO, p, none⟩ = some (.slice (some ⟨Gb p, 0, none⟩) 8 (Gc p)) := by
                  have := HBM.out.hdr p HPP.out
                  rw [hep.1] at this
                  simpa using this
                have hst := HBR.out.store p true
                obtain ⟨w7, hw7⟩ : ∃ w7, wr.setCell ⟨gS, p, none⟩ (.bool true) = w7 := ⟨_, rfl⟩
                rw [hw7] at hst
                have hbm7 := HBM.out.only hst.2 (show wr.heap[gS]? = some (.cells _ _ _) from HBR.out) (by decide) (by decide)
                have hhr7 := HHR.out.only hst.2 (fun q => HNE.out q.symm)
                have hq7 := heap_only hst.2 (show wr.heap[gS]? = some (.cells _ _ _) from HBR.out) HQ6.out (by decide)
                have hsS := HSS.out
                have hb7 := HB6.out.trans (Only.below hst.2 HSS.out HB6.out.size)
                have hhd7 : w7.cell? ⟨gO, p, none⟩ = some (.slice (some ⟨Gb p, 0, none⟩) 8 (Gc p)) := by
                  have := hbm7.hdr p HPP.out
                  rw [hep.1] at this
                  simpa using this
                have hfO7 := hbm7.hdrFrozen p
                have hcg7 : w7.cell? ⟨hq, 1, none⟩ = some (.bool gn) := by rw [cell_of_row _ _ _ _ _ _ hq7]; rfl
                have hcL7 := hhr7.cell g hg
                have hfL7 := hhr7.frozen g
                have HBM7 := Lib.hid hbm7
                have HBR7 := Lib.hid hst.1
                have HHR7 := Lib.hid hhr7
                have HQ7 := Lib.hid hq7
                have HB7 := Lib.hid hb7
                have HEP := Lib.hid hep
                have HS' := Lib.hid hs'
                have hLb := HPL.out.bd g hg
                have hL1 : L g ≤ 1000 := by omega
                have HG := Lib.hid hg
                clear hep hst hbm7 hhr7 hq7 hb7 hs hs'
                by_cases hgn : gn = true
                · subst hgn
                  have hst8 := HBM7.out.kill p HPP.out
                  obtain ⟨w8, hw8⟩ : ∃ w8, w7.setCell ⟨gO, p, none⟩ (.slice none 0 0) = w8 := ⟨_, rfl⟩
                  rw [hw8] at hst8
                  obtain ⟨cu, hcu⟩ := HBM7.out.outCells
                  have hhr8 : HRow w8 gL l.length 3 (fun g => .int .i64 (L g : Nat)) := heap_only hst8.2 hcu HHR7.out (by decide)
                  have hbr8 : BRow w8 gS N (fun j => if j = p then true else s j) := heap_only hst8.2 hcu HBR7.out (by decide)
                  have hb8 := HB7.out.trans (Only.below hst8.2 HBM7.out.outLt.1 HB7.out.size)
                  have hcL8 := hhr8.cell g hg
                  have hfL8 := hhr8.frozen g
                  have hst9 := hhr8.store g (.int .i64 ((L g : Int) + 1))
                  obtain ⟨w9, hw9⟩ : ∃ w9, w8.setCell ⟨gL, g, none⟩ (.int .i64 ((L g : Int) + 1)) = w9 := ⟨_, rfl⟩
                  rw [hw9] at hst9
                  have hbm9 := hst8.1.only hst9.2 (show w8.heap[gL]? = some (.cells _ _ _) from hhr8) (by decide) (by decide)
                  have hbr9 : BRow w9 gS N (fun j => if j = p then true else s j) := heap_only hst9.2 (show w8.heap[gL]? = some (.cells _ _ _) from hhr8) hbr8 (by decide)
                  have hhr9 : HRow w9 gL l.length 3 (fun j => .int .i64 ((if j = g then L j + 1 else L j : Nat) : Int)) := hst9.1.cong fun i _ => by
                    by_cases x : i = g
                    · subst x
                      simp
                    · simp [x]
                  have hb9 := hb8.trans (Only.below hst9.2 HSL.out hb8.size)
                  have hpl9 := Pl.hit (m' := m) (e' := fun i => if i = p then true else e i) (c := 1) HPL.out HT.out hg HA.out HPA.out (H8.out p HPP.out) HS'.out (fun _ _ => rfl) (fun i hi => if_neg hi) (by simp [cost]) (by omega)
                  have HBM9 := Lib.hid hbm9
                  have HBR9 := Lib.hid hbr9
                  have HHR9 := Lib.hid hhr9
                  have HB9 := Lib.hid hb9
                  have HPL9 := Lib.hid hpl9
                  have HW7 := Lib.hid hw7
                  have HW8 := Lib.hid hw8
                  have HW9 := Lib.hid hw9
                  clear hst8 hcu hhr8 hbr8 hb8 hst9 hbm9 hbr9 hhr9 hb9 hpl9 hw7 hw8 hw9
                  go_wp2_with (first | rw [HW7.out] | rw [HW8.out] | rw [HW9.out])
                  exact ⟨⟨k + 1, m, _, _, _, by omega, by go_num, HBM9.out, HBR9.out, HHR9.out, HB9.out, HPL9.out⟩, by simp [intOf]; omega⟩
                · have hgn' : gn = false := by simpa using hgn
                  subst hgn'
                  clear hgn
                  have HW7 := Lib.hid hw7
                  clear hw7
                  go_wp2_with (rw [HW7.out])
                  go_loopw [20, 125] (fun _ jv wr => BtAt4 N p gO capO gS gL hq l.length Gb Gc m e (fun j => if j = p then true else s j) (fun g => .int .i64 (L g : Nat)) #[.int .i64 q, .bool false, .int .u8 (y0.toNat : Int), .int .u8 (y1.toNat : Int), .int .u8 (y2.toNat : Int), .int .u8 (y3.toNat : Int), .int .u8 (y4.toNat : Int), .int .u8 (y5.toNat : Int), .int .u8 (y6.toNat : Int), .int .u8 (y7.toNat : Int)] w2 jv wr) (fun _ jv _ => 8 - (intOf jv).toNat)
                  case atStart => exact ⟨0, m p, by omega, rfl, by
                    have e2 : (fun i => if i = p then m p else m i) = m := funext fun i => by
                      by_cases x : i = p
                      · rw [if_pos x, x]
                      · rw [if_neg x]
                    rw [e2]
                    exact HBM7.out, HBR7.out, HHR7.out, HQ7.out, HB7.out⟩
                  case round =>
                    rename World => W8
                    obtain ⟨j, r, hj, rfl, hbm8, hbr8, hhr8, hq8, hb8⟩ := hrel
                    by_cases hj8 : j < 8
                    · have hhd := hbm8.hdr p HPP.out
                      rw [HEP.out.1] at hhd
                      have hhd : W8.cell? ⟨gO, p, none⟩ = some (.slice (some ⟨Gb p, 0, none⟩) 8 (Gc p)) := by simpa using hhd
                      have hrw := hbm8.row p HPP.out
                      rw [if_pos rfl] at hrw
                      have hcb := hrw.1.cell j (by rw [hrw.2.2]; exact hj8)
                      have hfb := hrw.1.frozen j
                      obtain ⟨x, hcx⟩ := hit_by hq8 hj8
                      obtain ⟨rj, hrj⟩ : ∃ rj, co r j = rj := ⟨_, rfl⟩
                      rw [hrj] at hcb
                      have hst := hbm8.put p j HPP.out (rj ^^^ x)
                      rw [if_pos rfl] at hst
                      have hxr := UInt8.toNat_lt x
                      have hrr := UInt8.toNat_lt rj
                      have hbx : bits .xor .u8 (rj.toNat : Int) (x.toNat : Int) = ((rj ^^^ x).toNat : Int) := by rw [u8_xor_nat _ _ hrr hxr, UInt8.toNat_xor]
                      obtain ⟨t, ht⟩ : ∃ t, rj ^^^ x = t := ⟨_, rfl⟩
                      rw [ht] at hbx hst
                      have hj0 : (0 : Int) ≤ (j : Int) := by omega
                      have hj1 : (j : Int) < 8 := by omega
                      have hhd' : World.cell? { W8 with drawn := W8.drawn + 1 } ⟨gO, p, none⟩ = _ := hhd
                      have hcb' : World.cell? { W8 with drawn := W8.drawn + 1 } ⟨Gb p, j, none⟩ = _ := hcb
                      have hcx' : World.cell? { W8 with drawn := W8.drawn + 1 } ⟨hq, 2 + j, none⟩ = _ := hcx
                      have hfb' : World.frozen? W8.drew ⟨Gb p, j, none⟩ = _ := hfb
                      have hcb'' : World.cell? W8.drew ⟨Gb p, j, none⟩ = _ := hcb
                      have HSTQ := Lib.hid hst
                      clear hst ht
                      go_wp2_with fail
                      go_still_tail 18, (by kernel_rfl)
                      repeat still_step
                      change wpList _ _ _ _ _ (World.drew _)
                      go_wp2_with fail
                      have hw9 := HSTQ.out
                      obtain ⟨w9, hw9q⟩ : ∃ w9, W8.setCell ⟨Gb p, j, none⟩ (.int .u8 (t.toNat : Int)) = w9 := ⟨_, rfl⟩
                      rw [hw9q] at hw9 ⊢
                      obtain ⟨cu, hcu⟩ := hrw.1.cells
                      have hbr9 : BRow w9 gS N (fun j => if j = p then true else s j) := heap_only hw9.2 hcu hbr8 (by decide)
                      have hhr9 : HRow w9 gL l.length 3 (fun g => .int .i64 (L g : Nat)) := heap_only hw9.2 hcu hhr8 (by decide)
                      have hq9 := heap_only hw9.2 hcu hq8 (by decide)
                      have hb9 := hb8.trans (Only.below hw9.2 hrw.2.1 hb8.size)
                      have e9 : (fun i => if i = p then r.set j t else (if i = p then r else m i)) = fun i => if i = p then r.set j t else m i := funext fun i => by
                        by_cases x : i = p
                        · rw [if_pos x, if_pos x]
                        · rw [if_neg x, if_neg x, if_neg x]
                      have hbm9 := hw9.1
                      rw [e9] at hbm9
                      have hdw : Below w9.heap.size w9 w9.drew := (Below.refl _ _).drew
                      exact ⟨⟨j + 1, r.set j t, by omega, by go_num, hbm9.later hdw, hbr9.later hdw, hhr9.later hdw, hq9, hb9.drew⟩, by simp [intOf]; omega⟩
                    · have hj9 : (j : Int) = 8 := by omega
                      have hdj : decide ((j : Int) < 8) = false := decide_eq_false (by omega)
                      have hr8 : r.length = 8 := by
                        have := (hbm8.row p HPP.out).2.2
                        rwa [if_pos rfl] at this
                      have hcL8 := hhr8.cell g hg
                      have hfL8 := hhr8.frozen g
                      have hst9 := hhr8.store g (.int .i64 ((L g : Int) + 2))
                      obtain ⟨w9, hw9⟩ : ∃ w9, W8.setCell ⟨gL, g, none⟩ (.int .i64 ((L g : Int) + 2)) = w9 := ⟨_, rfl⟩
                      rw [hw9] at hst9
                      have hbm9 := hbm8.only hst9.2 (show W8.heap[gL]? = some (.cells _ _ _) from hhr8) (by decide) (by decide)
                      have hbr9 : BRow w9 gS N (fun j => if j = p then true else s j) := heap_only hst9.2 (show W8.heap[gL]? = some (.cells _ _ _) from hhr8) hbr8 (by decide)
                      have hhr9 : HRow w9 gL l.length 3 (fun j => .int .i64 ((if j = g then L j + 2 else L j : Nat) : Int)) := hst9.1.cong fun i _ => by
                        by_cases x : i = g
                        · subst x
                          simp
                        · simp [x]
                      have hb9 := hb8.trans (Only.below hst9.2 HSL.out hb8.size)
                      have hpl9 := Pl.hit (m' := fun i => if i = p then r else m i) (e' := e) (c := 2) HPL.out HT.out hg HA.out HPA.out (H8.out p HPP.out) HS'.out (fun i hi => if_neg hi) (fun _ _ => rfl) (by
                        rw [HEP.out.1, if_neg (by simp), if_pos rfl]
                        unfold cost
                        rw [if_pos hr8]
                        split <;> omega) (by omega)
                      have HBM9 := Lib.hid hbm9
                      have HBR9 := Lib.hid hbr9
                      have HHR9 := Lib.hid hhr9
                      have HB9 := Lib.hid hb9
                      have HPL9 := Lib.hid hpl9
                      have HW9 := Lib.hid hw9
                      clear hbm8 hbr8 hhr8 hq8 hb8 hst9 hbm9 hbr9 hhr9 hb9 hpl9 hw9 hr8 hj9 hj8
                      go_wp2_with (rw [HW9.out])
                      exact ⟨⟨k + 1, _, _, _, _, by omega, by go_num, HBM9.out, HBR9.out, HHR9.out, HB9.out, HPL9.out⟩, by simp [intOf]; omega⟩
        · obtain rfl : M = k := by omega
          have HC5 := Lib.hid (fun (q : Nat) (hq : q < l.length) => hhr.cell q hq)
          have HL5 : Hid (∀ g, g < l.length → L g ≤ 1000) := Lib.hid fun g hg => by have := hpl.bd g hg; omega
          have HBM5 := Lib.hid hbm.rbv
          have HPL5 := Lib.hid hpl.wt
          have HB5 := Lib.hid (Kit.step HB2.out hb)
          clear hbm hbr hhr hb hpl
          go_wp2_with fail
          go_loopw [22, 156] (fun _ jv wr => BtAt5 l L W2 jv wr) (fun _ jv _ => l.length - (intOf jv).toNat)
          case atStart => exact ⟨0, Nat.zero_le _, rfl, fun _ h => absurd h (by omega), rfl⟩
          case round =>
            obtain ⟨q, hq, rfl, hall, rfl⟩ := hrel
            by_cases hql : q < l.length
            · have hcq := HC5.out q hql
              have hL1 := HL5.out q hql
              have hq0 : (0 : Int) ≤ (q : Int) := by omega
              have hq1 : (q : Int) < (l.length : Int) := by omega
              have HALL := Lib.hid hall
              clear hall
              by_cases h32 : 32 < L q
              · have hd := (decide_eq_true (by omega) : decide ((32 : Int) < ((L q : Nat) : Int)) = true)
                clear h32
                go_wp2_with fail
                go_ret2
                exact ⟨HB5.out, _, false, rfl, fun h => by cases h⟩
              · have hd := (decide_eq_false (by omega) : decide ((32 : Int) < ((L q : Nat) : Int)) = false)
                have HLE : Hid (L q ≤ 32) := Lib.hid (by omega)
                clear h32
                go_wp2_with fail
                go_roundw
                case rel => exact ⟨q + 1, by omega, by go_num, fun g hg => by
                  by_cases x : g = q
                  · rw [x]
                    exact HLE.out
                  · exact HALL.out g (by omega), rfl⟩
                case measure => simp [intOf]; omega
            · have HALL : Hid (∀ g, g < l.length → L g ≤ 32) := Lib.hid fun g hg => hall g (by omega)
              have hqe : (q : Int) = (l.length : Int) := by omega
              have hdq : decide ((q : Int) < (l.length : Int)) = false := decide_eq_false (by omega)
              clear hall
              go_wp2_with fail
              go_ret2
              exact ⟨HB5.out, _, true, rfl, fun _ => ⟨_, btL_length _ _ _, HBM5.out, fun g hg => Nat.le_trans (HPL5.out g hg) (HALL.out g hg)⟩⟩
end Go.Proofs.YtgifbpjmblemhaaDoor
