/- The document's way of solving linear equations: a solution just if there is one. -/
import Derived.Test.YtgchfijeiggimaaGreatDoorSo
import Derived.Test.YtgchfijeiggimaaGreatDoorRr
import Derived.StillTailTactics

namespace Go.Proofs.YtgchfijeiggimaaGreatDoor
open Go.RowKit
set_option linter.unusedVariables false
set_option linter.unusedSimpArgs false
def SolTo (mm : Nat → Nat → UInt8) (R n : Nat) (w : World) (e : Ending) (w' : World) : Prop :=
  Below w.heap.size w w' ∧ ((∃ (x : List UInt8) (v : Value), x.length = n ∧ Gf.Sol mm R n (co x) ∧ e = .returned (.tuple #[v, .bool true]) ∧ RowV x v w') ∨ ((∀ x, ¬ Gf.Sol mm R n x) ∧ e = .returned (.tuple #[.slice none 0 0, .bool false])))
def L1At (mm : Nat → Nat → UInt8) (R N : Nat) (w : World) (v i : Value) (wr : World) : Prop :=
  ∃ k : Nat, k ≤ R ∧ i = .int .i64 k ∧ Cpy wr w.heap.size N k v mm ∧ Below w.heap.size w wr
def L2At (mm : Nat → Nat → UInt8) (R n N gO capO : Nat) (w : World) (v at_ c : Value) (wr : World) : Prop :=
  ∃ (lead : List Nat) (m : Nat → Nat → UInt8) (Gb Gc : Nat → Nat) (cc : Nat), cc ≤ n ∧ c = .int .i64 cc ∧ at_ = .int .i64 lead.length ∧ Gf.El mm R n m lead cc ∧ SoS wr w.heap.size gO capO N R Gb Gc m v lead ∧ Below w.heap.size w wr
/-- so far along a row, or along the rows -/
def LcAt (f : Nat → Nat → Nat → UInt8) (N : Nat) (S : (Nat → Nat → UInt8) → World → Prop) (i : Value) (wr : World) : Prop := ∃ b : Nat, b ≤ N ∧ i = .int .i64 b ∧ S (f b) wr
def L7At (m : Nat → Nat → UInt8) (R a n : Nat) (w : World) (kv : Value) (wr : World) : Prop :=
  ∃ k : Nat, a ≤ k ∧ k ≤ R ∧ kv = .int .i64 k ∧ (∀ i, a ≤ i → i < k → m i n = 0) ∧ Kit.Dn w wr
/-- a solution, so far: the right sides stand at the leading columns -/
structure XoAt (m : Nat → Nat → UInt8) (n : Nat) (lead : List Nat) (w : World) (t : Nat) (xs : List UInt8) (wr : World) : Prop where
  len : xs.length = n
  at_ : ∀ t', t' < t → co xs (lead.getD t' 0) = m t' n
  none_ : ∀ j, (∀ t', t' < t → lead.getD t' 0 ≠ j) → co xs j = 0
  buf : Buf wr w.heap.size n xs
  below : Below w.heap.size w wr
theorem XoAt.step {mm m : Nat → Nat → UInt8} {R n cc : Nat} {lead : List Nat} {w wr : World} {t : Nat} {xs : List UInt8} (h : XoAt m n lead w t xs wr) (hel : Gf.El mm R n m lead cc) (ht : t < lead.length) (hc : lead.getD t 0 < n) :
    XoAt m n lead w (t + 1) (xs.set (lead.getD t 0) (m t n)) (wr.setCell ⟨w.heap.size, lead.getD t 0, none⟩ (.int .u8 ((m t n).toNat : Int))) := by
  have hs := h.buf.store (lead.getD t 0) (m t n)
  have hd : ∀ t', t' < t → lead.getD t' 0 ≠ lead.getD t 0 := fun t' ht' e => by
    have h1 := hel.one t ht
    have h2 := hel.else_ t' (by omega) t (by have := hel.le; omega) (by omega)
    rw [e, h1] at h2
    exact absurd h2 (by decide)
  refine ⟨by rw [List.length_set, h.len], fun t' ht' => ?_, fun j hj => ?_, hs.1, h.below.trans (Only.below hs.2 (Nat.le_refl _) h.below.size)⟩
  · rw [co_set]
    by_cases e : t' = t
    · subst e
      rw [if_pos ⟨rfl, by rw [h.len]; exact hc⟩]
    · rw [if_neg (fun e2 => hd t' (by omega) e2.1.symm)]
      exact h.at_ t' (by omega)
  · rw [co_set, if_neg (fun e2 => hj t (by omega) e2.1)]
    exact h.none_ j fun t' ht' => hj t' (by omega)
def XtAt (m : Nat → Nat → UInt8) (n : Nat) (lead : List Nat) (w : World) (iv : Value) (wr : World) : Prop := ∃ (t : Nat) (xs : List UInt8), t ≤ lead.length ∧ iv = .int .i64 t ∧ XoAt m n lead w t xs wr
def L3At (m : Nat → Nat → UInt8) (R a cc : Nat) (w : World) (kv : Value) (wr : World) : Prop :=
  ∃ k : Nat, a ≤ k ∧ k ≤ R ∧ kv = .int .i64 k ∧ (∀ i, a ≤ i → i < k → m i cc = 0) ∧ Kit.Dn w wr
set_option maxRecDepth 100000 in
set_option maxHeartbeats 20000000 in
theorem solve_of (mm : Nat → Nat → UInt8) (R n N gI cI : Nat) (w : World) (hN : N = n + 1) (hI : RIn w gI N R mm) (hn : n ≤ 1000) (hR : R ≤ 1000) (hc1 : R ≤ cI) (hc2 : cI ≤ 9223372036854775807) :
    Calls Tryz.prog 48 #[.slice (some ⟨gI, 0, none⟩) R cI, .int .i64 n] w (SolTo mm R n w) := by
  have HI := Lib.hid hI
  have HN := Lib.hid hN
  have hnN : n < N := by omega
  have hN0 : 0 < N := by omega
  have hN1 : N ≤ 1001 := by omega
  have HC0 := Lib.hid (Cpy.start w w.heap.size N mm (Nat.le_refl _))
  have HB0 : Hid (Below w.heap.size w (w.alloc (.cells #[] 22))) := Lib.hid ((Below.refl _ _).alloc (Nat.le_refl _) _)
  clear hI hN
  go_enter Tryz.func48, Tryz.ntmps48
  go_wp2_with fail
  go_loopw [6, 8, 25] (fun v _ i wr => L1At mm R N w v i wr) (fun _ _ i _ => R - (intOf i).toNat)
  case atStart => exact ⟨0, Nat.zero_le _, rfl, HC0.out, HB0.out⟩
  case round =>
    clear HC0 HB0
    obtain ⟨k, hk, rfl, ⟨gO, capO, Gb, Gc, rfl, hmat⟩, hb⟩ := hrel
    have HM := Lib.hid hmat
    have HB := Lib.hid hb
    have hcO := hmat.cap
    unfold maxLen at hcO
    have hcO1 := hcO.1
    have hcO2 := hcO.2
    clear hmat hb hcO
    by_cases hlt : k < R
    · obtain ⟨ok, ck, hcell, hrow⟩ := (HI.out.later HB.out).row k hlt
      have hck := hrow.cap
      unfold maxLen at hck
      have HPE : Hid (RowIs (wr.alloc (.cells #[] 5)) ok (bytesV (tab (mm k) N)) ck) := Lib.hid (hrow.later ((Below.refl _ _).alloc (Nat.le_refl _) _))
      have HOWN : Hid ((wr.alloc (.cells #[] 5)).ownsRow wr.heap.size 5 1 (.slice (some ⟨wr.heap.size, 0, none⟩) 0 0) 0 (bytesV [])) := Lib.hid (World.ownsRow_lit wr #[] 0 (Nat.le_refl _) (Nat.zero_le _) rfl)
      have HBE : Hid (Below wr.heap.size wr (wr.alloc (.cells #[] 5))) := Lib.hid ((Below.refl _ _).alloc (Nat.le_refl _) _)
      have hk0 : (0 : Int) ≤ (k : Int) := by omega
      have hk1 : (k : Int) < (R : Int) := by omega
      clear hrow
      go_wp2_with (at_builtin; refine append_row rfl (.tmp 30) (.tmp 31) rfl wr.heap.size _ 0 [] rfl HOWN.out ok N ck (tab (mm k) N) rfl (by simp) HPE.out (by omega) HBE.out.size ?_)
      intro v2 w2 hv hgr
      have hb2 := own_below (n := 0) HBE.out HOWN.out hgr
      have hv' : w2.ownsRow wr.heap.size 5 1 v2 N (bytesV (tab (mm k) N)) := by simpa using hv
      obtain ⟨g, cap, e2, hg, hbuf⟩ := own_bufM hv' (by omega) (by simp)
      rw [tab_length] at e2
      subst e2
      have hcap := hbuf.le
      unfold maxLen at hcap
      have hcap2 := hcap.2
      obtain ⟨w3, hw3⟩ : ∃ w3, w2.alloc (.cells #[.slice (some ⟨g, 0, none⟩) N cap] 22) = w3 := ⟨_, rfl⟩
      have hb3 : Below w2.heap.size w2 w3 := by rw [← hw3]; exact (Below.refl _ _).alloc (Nat.le_refl _) _
      have hc3 : w3.cell? ⟨w2.heap.size, 0, none⟩ = some (.slice (some ⟨g, 0, none⟩) N cap) := by
        rw [← hw3]
        exact cell_of_row _ _ 0 _ _ _ (World.alloc_heap_new w2 _)
      have HM3 := Lib.hid ((HM.out.later hb2).later hb3)
      have HBF3 := Lib.hid (hbuf.later hb3)
      have HB3 := Lib.hid (Kit.step (Kit.step HB.out hb2) hb3)
      have HC3 := Lib.hid hc3
      have HW3 := Lib.hid hw3
      have HGN : Hid (∀ i, i < k → Gb i ≠ g) := Lib.hid fun i hi e => by
        have := (HM.out.row i hi).1.lt
        omega
      have HGB : Hid (w.heap.size ≤ g) := Lib.hid (Nat.le_trans HB.out.size hg)
      clear hv hgr hb2 hv' hg hbuf hcap hb3 hc3 hw3 HPE HOWN HBE
      go_wp2_with (at_builtin; rw [HW3.out]; refine append_hdr rfl (.tmp 29) (.tmp 33) rfl w.heap.size _ k _ rfl HM3.out.outer w2.heap.size (some ⟨g, 0, none⟩) N cap rfl HC3.out (by omega) HB3.out.size ?_)
      intro v4 w4 hv hgr
      have HC4 : Hid (Cpy w4 w.heap.size N (k + 1) v4 mm) := Lib.hid (Cpy.add HM3.out g cap HGB.out HBF3.out HGN.out hv hgr)
      have HB4 : Hid (Below w.heap.size w w4) := Lib.hid (HB3.out.grown hgr HB3.out.size fun k e => (World.ownsRow.lt HM3.out.outer k e).1)
      clear hv hgr HM3 HBF3 HB3 HC3 HW3
      go_wp2_with fail
      go_roundw
      case rel => exact ⟨k + 1, by omega, by go_num, HC4.out, HB4.out⟩
      case measure => simp [intOf]; omega
    · obtain rfl : R = k := by omega
      have hb1 : Below wr.heap.size wr (wr.alloc (.cells #[] 3)) := (Below.refl _ _).alloc (Nat.le_refl _) _
      have HS1 : Hid (SoS (wr.alloc (.cells #[] 3)) w.heap.size gO capO N R Gb Gc mm (.slice (some ⟨wr.heap.size, 0, none⟩) 0 0) []) := Lib.hid ⟨HM.out.later hb1, World.ownsRow_lit wr #[] 0 HB.out.size (Nat.zero_le _) rfl⟩
      have HB1 := Lib.hid (Kit.step HB.out hb1)
      clear hb1
      go_wp2_with fail
      go_loopw [9, 10, 11] (fun v at_ c wr => L2At mm R n N gO capO w v at_ c wr) (fun _ _ c _ => n - (intOf c).toNat)
      case atStart => exact ⟨[], mm, Gb, Gc, 0, Nat.zero_le _, rfl, rfl, Gf.El.start mm R n, HS1.out, HB1.out⟩
      case round =>
        rename World => W3
        clear HS1 HB1
        obtain ⟨lead, m, Gb2, Gc2, cc, hcc, rfl, rfl, hel, hso, hb⟩ := hrel
        obtain ⟨a, ha⟩ : ∃ a, lead.length = a := ⟨_, rfl⟩
        have HEL := Lib.hid hel
        have HSO := Lib.hid hso
        have HB2 := Lib.hid hb
        have HA := Lib.hid ha
        have haR : a ≤ R := by rw [← ha]; exact hel.le
        rw [ha]
        clear hel hso hb ha
        by_cases hcn : cc < n
        · have hd1 : decide ((cc : Int) < (n : Int)) = true := decide_eq_true (by omega)
          by_cases har : a < R
          · have hd2 : decide ((a : Int) < (R : Int)) = true := decide_eq_true (by omega)
            go_wp2_with fail
            go_loopw [12] (fun kv wr => L3At m R a cc W3 kv wr) (fun kv _ => R - (intOf kv).toNat)
            case atStart => exact ⟨a, Nat.le_refl _, by omega, rfl, fun i h1 h2 => absurd h2 (by omega), Kit.Dn.refl _⟩
            case round =>
              rename World => W4
              obtain ⟨q, hq1, hq2, rfl, hz, hd⟩ := hrel
              have HZ := Lib.hid hz
              have HD := Lib.hid hd
              have HS4 := Lib.hid (HSO.out.later hd.below)
              have HB4 := Lib.hid (Kit.step HB2.out hd.below)
              clear hz hd
              by_cases hq : q < R
              · have hh := HS4.out.mat.hdr q hq
                have hcl := HS4.out.mat.cell q cc hq (by omega)
                have hcap := (HS4.out.mat.caps q hq).2
                unfold maxLen at hcap
                have hq0 : (0 : Int) ≤ (q : Int) := by omega
                have hqR : (q : Int) < (R : Int) := by omega
                have hqd : decide ((q : Int) < (R : Int)) = true := decide_eq_true hqR
                have hc0 : (0 : Int) ≤ (cc : Int) := by omega
                have hcN : (cc : Int) < (N : Int) := by omega
                by_cases hx : m q cc = 0
                · rw [hx] at hcl
                  go_wp2_with fail
                  go_roundw
                  case rel =>
                    refine ⟨q + 1, by omega, by omega, by go_num, fun i h1 h2 => ?_, HD.out⟩
                    by_cases e : i = q
                    · rw [e]; exact hx
                    · exact HZ.out i h1 (by omega)
                  case measure => simp [intOf]; omega
                · have HX := Lib.hid hx
                  obtain ⟨x, hxe⟩ : ∃ x, m q cc = x := ⟨_, rfl⟩
                  rw [hxe] at hcl
                  have hx0 : ¬ x.toNat = 0 := fun e => hx (by rw [hxe]; exact Gf.u8_ext e)
                  have hxb : ((x.toNat : Int) == 0) = false := beq_false_of_ne (by omega)
                  have hxd : decide ((x.toNat : Int) = 0) = false := decide_eq_false (by omega)
                  have hxl := UInt8.toNat_lt x
                  have HXE := Lib.hid hxe
                  have hqb : ((q : Int) == (R : Int)) = false := beq_false_of_ne (by omega)
                  have hqe : decide ((q : Int) = (R : Int)) = false := decide_eq_false (by omega)
                  clear hx hxe
                  have hha := HS4.out.mat.hdr a har
                  have hfa := HS4.out.mat.hdrFrozen a
                  have hfq := HS4.out.mat.hdrFrozen q
                  have ha0 : (0 : Int) ≤ (a : Int) := by omega
                  have haR1 : (a : Int) < (R : Int) := by omega
                  have HSW := Lib.hid (HS4.out.swap a q har hq)
                  rcases Nat.eq_or_lt_of_le hq1 with e0 | e0
                  · subst e0
                    go_wp2_with fail
                    go_region
                    all_goals
                      obtain ⟨W5, hW5⟩ : ∃ W5, ((W4.setCell ⟨gO, a, none⟩ (.slice (some ⟨Gb2 a, 0, none⟩) N (Gc2 a))).setCell ⟨gO, a, none⟩ (.slice (some ⟨Gb2 a, 0, none⟩) N (Gc2 a))).drew = W5 := ⟨_, rfl⟩
                      have hs5 : SoS W5 w.heap.size gO capO N R (fun i => Gb2 (trn a a i)) (fun i => Gc2 (trn a a i)) (Gf.swp m a a) u9 lead := by rw [← hW5]; exact HSW.out.1.later (dn_drew (Kit.Dn.refl _)).below
                      have hb5 : Below w.heap.size w W5 := by rw [← hW5]; exact (HB4.out.trans HSW.out.2).trans ⟨rfl, rfl, rfl, Nat.le_refl _, fun _ _ => rfl⟩
                      have hsq : Gf.swp m a a a cc = m a cc := by unfold Gf.swp; rw [if_pos rfl]
                      have hm1 : Gf.swp m a a a cc ≠ 0 := by rw [hsq]; exact HX.out
                      have hpv : ∀ y, Gf.gm (Gf.swp m a a a cc) y = 1 → Gf.El mm R n (Gf.clr (Gf.scl (Gf.swp m a a) a y) a cc R) (lead ++ [cc]) (cc + 1) := fun y hy => by
                        have h := HEL.out.pivot (k := a) (by rw [HA.out]; exact Nat.le_refl _) hq (y := y) (by rw [← hsq]; exact hy)
                        rw [HA.out] at h
                        exact h
                      generalize (fun i => Gb2 (trn a a i)) = Gb3 at hs5
                      generalize (fun i => Gc2 (trn a a i)) = Gc3 at hs5
                      generalize Gf.swp m a a = m1 at hs5 hm1 hpv
                      rw [hW5]
                      obtain ⟨y, hy, hinv⟩ := rinv_u8 (m1 a cc) hm1
                      have HINV := Lib.hid hinv
                      have HEL2 := Lib.hid (hpv y hy)
                      have HS5 := Lib.hid hs5
                      have HB5 := Lib.hid hb5
                      have hh5 := hs5.mat.hdr a har
                      have hc5 := hs5.mat.cell a cc har (by omega)
                      have hcap5 := (hs5.mat.caps a har).2
                      unfold maxLen at hcap5
                      have hyl := UInt8.toNat_lt y
                      have hil := UInt8.toNat_lt (m1 a cc)
                      clear hW5 hs5 hb5 hsq hm1 hpv hy hinv hha hfa hfq hh hcl HSW HS4 HB4 HEL HZ HSO
                      go_wp2_with fail
                      refine (HINV.out _).mono ?_; rintro e w' ⟨rfl, rfl⟩
                      go_wp2_with fail
                      clear hh5 hc5 hcap5 HINV
                      go_loopw [14, 96] (fun _ i wr => LcAt (fun b => Gf.sclAt m1 a y b) N (fun f wr => SoS wr w.heap.size gO capO N R Gb3 Gc3 f u9 lead ∧ Below w.heap.size w wr) i wr) (fun _ i _ => N - (intOf i).toNat)
                      case atStart => exact ⟨0, Nat.zero_le _, rfl, HS5.out.congr fun i j _ _ => (Gf.sclAt_zero m1 a y i j).symm, HB5.out⟩
                      case round =>
                        rename World => W6
                        clear HS5 HB5
                        obtain ⟨b, hbN, rfl, hs6, hb6⟩ := hrel
                        replace hs6 : SoS W6 w.heap.size gO capO N R Gb3 Gc3 (Gf.sclAt m1 a y b) u9 lead := hs6
                        have HS6 := Lib.hid hs6
                        have HB6 := Lib.hid hb6
                        have hcap6 := (hs6.mat.caps a har).2
                        unfold maxLen at hcap6
                        by_cases hbl : b < N
                        · have hh6 := hs6.mat.hdr a har
                          have hc6 := hs6.mat.cell a b har hbl
                          have hf6 := hs6.mat.frozen a b har
                          rw [Gf.sclAt_here] at hc6
                          have hst := (hs6.later (dn_drew (Kit.Dn.refl _)).below).store a b har hbl (Gf.gm (m1 a b) y)
                          have HST := Lib.hid (show SoS (W6.drew.setCell ⟨Gb3 a, b, none⟩ (.int .u8 ((Gf.gm (m1 a b) y).toNat : Int))) w.heap.size gO capO N R Gb3 Gc3 (Gf.sclAt m1 a y (b + 1)) u9 lead from hst.1.congr fun i j _ _ => Gf.sclAt_step m1 a y b i j)
                          have HSB := Lib.hid ((show Below w.heap.size w W6.drew from Kit.dn hb6 1).trans hst.2)
                          have MC : Hid (∀ v : World, Calls Tryz.prog 45 #[.int .u8 ((m1 a b).toNat : Int), .int .u8 (y.toNat : Int)] v fun e w' => e = .returned (.int .u8 ((Gf.gm (m1 a b) y).toNat : Int)) ∧ w' = v) := Lib.hid fun v => rmul_u8 (m1 a b) y v
                          generalize Gf.gm (m1 a b) y = s at *
                          generalize m1 a b = p at *
                          have hpl := UInt8.toNat_lt p
                          have hsl := UInt8.toNat_lt s
                          have hb0 : (0 : Int) ≤ (b : Int) := by omega
                          have hb1 : (b : Int) < (N : Int) := by omega
                          clear hs6 hb6 hst
                          have hh6' : World.cell? { W6 with drawn := W6.drawn + 1 } ⟨gO, a, none⟩ = _ := hh6
                          have hc6' : World.cell? { W6 with drawn := W6.drawn + 1 } ⟨Gb3 a, b, none⟩ = _ := hc6
                          have hf6' : World.frozen? W6.drew ⟨Gb3 a, b, none⟩ = _ := hf6
                          have hc6'' : World.cell? W6.drew ⟨Gb3 a, b, none⟩ = _ := hc6
                          go_wp2_with fail
                          go_still_tail 15, (by kernel_rfl)
                          still_call (MC.out _)
                          repeat still_step
                          refine wpStill_nil ?_
                          change wpList _ _ _ _ _ (World.drew _)
                          go_wp2_with fail
                          go_roundw
                          case rel => exact ⟨b + 1, by omega, by go_num, HST.out, HSB.out⟩
                          case measure => simp [intOf]; omega
                        · obtain rfl : b = N := by omega
                          have HS7 : Hid (SoS W6 w.heap.size gO capO b R Gb3 Gc3 (Gf.scl m1 a y) u9 lead) := Lib.hid (hs6.congr fun i j _ hj => Gf.sclAt_full m1 a y b i j hj)
                          generalize Gf.scl m1 a y = m2 at *
                          clear hs6 hb6 HS6
                          go_wp2_with fail
                          go_loopw [15, 16, 117] (fun _ _ i wr => LcAt (fun b => Gf.clr m2 a cc b) R (fun f wr => SoS wr w.heap.size gO capO b R Gb3 Gc3 f u9 lead ∧ Below w.heap.size w wr) i wr) (fun _ _ i _ => R - (intOf i).toNat)
                          case atStart => exact ⟨0, Nat.zero_le _, rfl, HS7.out.congr fun i j _ _ => (Gf.clr_zero m2 a cc i j).symm, HB6.out⟩
                          case round =>
                            rename World => W7
                            clear HS7 HB6
                            obtain ⟨r, hrR, rfl, hs7, hb7⟩ := hrel
                            replace hs7 : SoS W7 w.heap.size gO capO b R Gb3 Gc3 (Gf.clr m2 a cc r) u9 lead := hs7
                            have HS7 := Lib.hid hs7
                            have HB7 := Lib.hid hb7
                            by_cases hrl : r < R
                            · have hh7 := hs7.mat.hdr r hrl
                              have hc7 := hs7.mat.cell r cc hrl (by omega)
                              have hcap7 := (hs7.mat.caps r hrl).2
                              unfold maxLen at hcap7
                              rw [Gf.clr_here] at hc7
                              have hr0 : (0 : Int) ≤ (r : Int) := by omega
                              have hr1 : (r : Int) < (R : Int) := by omega
                              have HSK : Hid (r = a ∨ m2 r cc = 0 → SoS W7 w.heap.size gO capO b R Gb3 Gc3 (Gf.clr m2 a cc (r + 1)) u9 lead) := Lib.hid fun h => hs7.congr fun i j _ _ => (Gf.clr_skip m2 a cc r i j h).symm
                              by_cases hra : r = a
                              · have hrb : ((r : Int) == (a : Int)) = true := by rw [hra]; simp
                                have hrd : decide ((r : Int) = (a : Int)) = true := decide_eq_true (by omega)
                                have HRA := Lib.hid hra
                                have hfl := UInt8.toNat_lt (m2 r cc)
                                clear hs7 hb7 hra
                                go_wp2_with fail
                                go_roundw
                                case rel => exact ⟨r + 1, by omega, by go_num, HSK.out (.inl HRA.out), HB7.out⟩
                                case measure => simp [intOf]; omega
                              · have hrb : ((r : Int) == (a : Int)) = false := beq_false_of_ne (by omega)
                                have hrd : decide ((r : Int) = (a : Int)) = false := decide_eq_false (by omega)
                                have HRA := Lib.hid hra
                                by_cases hf0 : m2 r cc = 0
                                · rw [hf0] at hc7
                                  have HF0 := Lib.hid hf0
                                  clear hs7 hb7 hra hf0
                                  go_wp2_with fail
                                  go_roundw
                                  case rel => exact ⟨r + 1, by omega, by go_num, HSK.out (.inr HF0.out), HB7.out⟩
                                  case measure => simp [intOf]; omega
                                · have HS8 : Hid (SoS W7 w.heap.size gO capO b R Gb3 Gc3 (Gf.addAt (Gf.clr m2 a cc r) a r (m2 r cc) 0) u9 lead) := Lib.hid (hs7.congr fun i j _ _ => (Gf.addAt_zero _ a r _ i j).symm)
                                  have HRW : Hid (∀ i j, j < b → Gf.addAt (Gf.clr m2 a cc r) a r (m2 r cc) b i j = Gf.clr m2 a cc (r + 1) i j) := Lib.hid fun i j hj => Gf.clr_row m2 a cc r b i j hra hj
                                  obtain ⟨f, hfe⟩ : ∃ f, m2 r cc = f := ⟨_, rfl⟩
                                  rw [hfe] at hc7 HS8 HRW
                                  generalize Gf.clr m2 a cc r = m3 at *
                                  have hf00 : ¬ f.toNat = 0 := fun e => hf0 (by rw [hfe]; exact Gf.u8_ext e)
                                  have hfb : ((f.toNat : Int) == 0) = false := beq_false_of_ne (by omega)
                                  have hfd : decide ((f.toNat : Int) = 0) = false := decide_eq_false (by omega)
                                  have hfl := UInt8.toNat_lt f
                                  clear hs7 hb7 hra hf0 hfe HSK
                                  go_wp2_with fail
                                  go_loopw [17, 139] (fun _ i wr => LcAt (fun x => Gf.addAt m3 a r f x) b (fun f wr => SoS wr w.heap.size gO capO b R Gb3 Gc3 f u9 lead ∧ Below w.heap.size w wr) i wr) (fun _ i _ => b - (intOf i).toNat)
                                  case atStart => exact ⟨0, Nat.zero_le _, rfl, HS8.out, HB7.out⟩
                                  case round =>
                                    rename World => W8
                                    clear HS8 HB7
                                    obtain ⟨x8, hxb, rfl, hs8, hb8⟩ := hrel
                                    replace hs8 : SoS W8 w.heap.size gO capO b R Gb3 Gc3 (Gf.addAt m3 a r f x8) u9 lead := hs8
                                    have HS9 := Lib.hid hs8
                                    have HB9 := Lib.hid hb8
                                    by_cases hxl8 : x8 < b
                                    · have hh8 := hs8.mat.hdr r hrl
                                      have hh9 := hs8.mat.hdr a har
                                      have hc8 := hs8.mat.cell r x8 hrl hxl8
                                      have hc9 := hs8.mat.cell a x8 har hxl8
                                      have hf8 := hs8.mat.frozen r x8 hrl
                                      have hcap8 := (hs8.mat.caps r hrl).2
                                      have hcap9 := (hs8.mat.caps a har).2
                                      unfold maxLen at hcap8 hcap9
                                      rw [Gf.addAt_here] at hc8
                                      rw [Gf.addAt_other m3 a r f x8 x8 (fun e => HRA.out e.symm)] at hc9
                                      have hst := (hs8.later (dn_drew (Kit.Dn.refl _)).below).store r x8 hrl hxl8 (m3 r x8 ^^^ Gf.gm f (m3 a x8))
                                      have HST := Lib.hid (show SoS (W8.drew.setCell ⟨Gb3 r, x8, none⟩ (.int .u8 ((m3 r x8 ^^^ Gf.gm f (m3 a x8)).toNat : Int))) w.heap.size gO capO b R Gb3 Gc3 (Gf.addAt m3 a r f (x8 + 1)) u9 lead from hst.1.congr fun i j _ _ => Gf.addAt_step m3 a r f x8 i j)
                                      have HSB := Lib.hid ((show Below w.heap.size w W8.drew from Kit.dn hb8 1).trans hst.2)
                                      have MC : Hid (∀ v : World, Calls Tryz.prog 45 #[.int .u8 (f.toNat : Int), .int .u8 ((m3 a x8).toNat : Int)] v fun e w' => e = .returned (.int .u8 ((Gf.gm f (m3 a x8)).toNat : Int)) ∧ w' = v) := Lib.hid fun v => rmul_u8 f (m3 a x8) v
                                      have hxo := u8c (m3 r x8) (Gf.gm f (m3 a x8))
                                      generalize m3 r x8 ^^^ Gf.gm f (m3 a x8) = s at *
                                      generalize Gf.gm f (m3 a x8) = g8 at *
                                      generalize m3 r x8 = p8 at *
                                      generalize m3 a x8 = q8 at *
                                      have hp8 := UInt8.toNat_lt p8
                                      have hq8 := UInt8.toNat_lt q8
                                      have hg8 := UInt8.toNat_lt g8
                                      have hs9 := UInt8.toNat_lt s
                                      have hx0 : (0 : Int) ≤ (x8 : Int) := by omega
                                      have hx1 : (x8 : Int) < (b : Int) := by omega
                                      have ha0' : (0 : Int) ≤ (a : Int) := by omega
                                      have ha1' : (a : Int) < (R : Int) := by omega
                                      clear hs8 hb8 hst
                                      have hh8' : World.cell? { W8 with drawn := W8.drawn + 1 } ⟨gO, r, none⟩ = _ := hh8
                                      have hh9' : World.cell? { W8 with drawn := W8.drawn + 1 } ⟨gO, a, none⟩ = _ := hh9
                                      have hc8' : World.cell? { W8 with drawn := W8.drawn + 1 } ⟨Gb3 r, x8, none⟩ = _ := hc8
                                      have hc9' : World.cell? { W8 with drawn := W8.drawn + 1 } ⟨Gb3 a, x8, none⟩ = _ := hc9
                                      have hf8' : World.frozen? W8.drew ⟨Gb3 r, x8, none⟩ = _ := hf8
                                      have hc8'' : World.cell? W8.drew ⟨Gb3 r, x8, none⟩ = _ := hc8
                                      go_wp2_with fail
                                      go_still_tail 23, (by kernel_rfl)
                                      still_call (MC.out _)
                                      repeat still_step
                                      refine wpStill_nil ?_
                                      change wpList _ _ _ _ _ (World.drew _)
                                      go_wp2_with fail
                                      go_roundw
                                      case rel => exact ⟨x8 + 1, by omega, by go_num, HST.out, HSB.out⟩
                                      case measure => simp [intOf]; omega
                                    · obtain rfl : x8 = b := by omega
                                      have HSX : Hid (SoS W8 w.heap.size gO capO x8 R Gb3 Gc3 (Gf.clr m2 a cc (r + 1)) u9 lead) := Lib.hid (hs8.congr fun i j _ hj => HRW.out i j hj)
                                      clear hs8 hb8 HS9
                                      go_wp2_with fail
                                      go_roundw
                                      case rel => exact ⟨r + 1, by omega, by go_num, HSX.out, HB9.out⟩
                                      case measure => simp [intOf]; omega
                            · obtain rfl : r = R := by omega
                              clear hs7 hb7
                              have HV8 : Hid ((W7.alloc (.cells #[.int .i64 (cc : Int)] 3)).ownsRow w.heap.size 3 1 u9 lead.length (intsV (lead.map fun c : Nat => (c : Int)))) := Lib.hid (World.ownsRow.alloc HS7.out.hl _)
                              have HB8 : Hid (Below w.heap.size w (W7.alloc (.cells #[.int .i64 (cc : Int)] 3))) := Lib.hid (HB7.out.alloc HB7.out.size _)
                              have HS8 : Hid (SoS (W7.alloc (.cells #[.int .i64 (cc : Int)] 3)) w.heap.size gO capO b r Gb3 Gc3 (Gf.clr m2 a cc r) u9 lead) := Lib.hid (HS7.out.later ((Below.refl _ _).alloc (Nat.le_refl _) _))
                              have HC8 : Hid ((W7.alloc (.cells #[.int .i64 (cc : Int)] 3)).cell? ⟨W7.heap.size, 0, none⟩ = some (.int .i64 (cc : Int))) := Lib.hid (cell_of_row _ _ 0 _ _ _ (World.alloc_heap_new W7 _))
                              go_wp2_with (at_builtin; refine append_int rfl (.tmp 167) (.tmp 169) rfl w.heap.size _ lead.length (lead.map fun c : Nat => (c : Int)) rfl HV8.out W7.heap.size (cc : Int) rfl HC8.out (by have := HA.out; omega) HB8.out.size ?_)
                              intro v9 w9 hv hg
                              have HS9 := Lib.hid (HS8.out.push cc hv hg)
                              have HB9 := Lib.hid (own_belowI HB8.out HV8.out hg)
                              clear hv hg
                              go_wp2_with fail
                              go_roundw
                              case rel => exact ⟨lead ++ [cc], _, Gb3, Gc3, cc + 1, by omega, by go_num, by rw [List.length_append, HA.out]; rfl, HEL2.out, HS9.out, HB9.out⟩
                              case measure => simp [intOf]; omega
                  · have hne1 : ¬ a = q := by omega
                    have hne2 : ¬ q = a := by omega
                    go_wp2_with fail
                    go_region
                    all_goals
                      obtain ⟨W5, hW5⟩ : ∃ W5, ((W4.setCell ⟨gO, a, none⟩ (.slice (some ⟨Gb2 q, 0, none⟩) N (Gc2 q))).setCell ⟨gO, q, none⟩ (.slice (some ⟨Gb2 a, 0, none⟩) N (Gc2 a))).drew = W5 := ⟨_, rfl⟩
                      have hs5 : SoS W5 w.heap.size gO capO N R (fun i => Gb2 (trn a q i)) (fun i => Gc2 (trn a q i)) (Gf.swp m a q) u9 lead := by rw [← hW5]; exact HSW.out.1.later (dn_drew (Kit.Dn.refl _)).below
                      have hb5 : Below w.heap.size w W5 := by rw [← hW5]; exact (HB4.out.trans HSW.out.2).trans ⟨rfl, rfl, rfl, Nat.le_refl _, fun _ _ => rfl⟩
                      have hsq : Gf.swp m a q a cc = m q cc := by unfold Gf.swp; rw [if_pos rfl]
                      have hm1 : Gf.swp m a q a cc ≠ 0 := by rw [hsq]; exact HX.out
                      have hpv : ∀ y, Gf.gm (Gf.swp m a q a cc) y = 1 → Gf.El mm R n (Gf.clr (Gf.scl (Gf.swp m a q) a y) a cc R) (lead ++ [cc]) (cc + 1) := fun y hy => by
                        have h := HEL.out.pivot (k := q) (by rw [HA.out]; exact hq1) hq (y := y) (by rw [← hsq]; exact hy)
                        rw [HA.out] at h
                        exact h
                      generalize (fun i => Gb2 (trn a q i)) = Gb3 at hs5
                      generalize (fun i => Gc2 (trn a q i)) = Gc3 at hs5
                      generalize Gf.swp m a q = m1 at hs5 hm1 hpv
                      rw [hW5]
                      obtain ⟨y, hy, hinv⟩ := rinv_u8 (m1 a cc) hm1
                      have HINV := Lib.hid hinv
                      have HEL2 := Lib.hid (hpv y hy)
                      have HS5 := Lib.hid hs5
                      have HB5 := Lib.hid hb5
                      have hh5 := hs5.mat.hdr a har
                      have hc5 := hs5.mat.cell a cc har (by omega)
                      have hcap5 := (hs5.mat.caps a har).2
                      unfold maxLen at hcap5
                      have hyl := UInt8.toNat_lt y
                      have hil := UInt8.toNat_lt (m1 a cc)
                      clear hW5 hs5 hb5 hsq hm1 hpv hy hinv hha hfa hfq hh hcl HSW HS4 HB4 HEL HZ HSO
                      go_wp2_with fail
                      refine (HINV.out _).mono ?_; rintro e w' ⟨rfl, rfl⟩
                      go_wp2_with fail
                      clear hh5 hc5 hcap5 HINV
                      go_loopw [14, 96] (fun _ i wr => LcAt (fun b => Gf.sclAt m1 a y b) N (fun f wr => SoS wr w.heap.size gO capO N R Gb3 Gc3 f u9 lead ∧ Below w.heap.size w wr) i wr) (fun _ i _ => N - (intOf i).toNat)
                      case atStart => exact ⟨0, Nat.zero_le _, rfl, HS5.out.congr fun i j _ _ => (Gf.sclAt_zero m1 a y i j).symm, HB5.out⟩
                      case round =>
                        rename World => W6
                        clear HS5 HB5
                        obtain ⟨b, hbN, rfl, hs6, hb6⟩ := hrel
                        replace hs6 : SoS W6 w.heap.size gO capO N R Gb3 Gc3 (Gf.sclAt m1 a y b) u9 lead := hs6
                        have HS6 := Lib.hid hs6
                        have HB6 := Lib.hid hb6
                        have hcap6 := (hs6.mat.caps a har).2
                        unfold maxLen at hcap6
                        by_cases hbl : b < N
                        · have hh6 := hs6.mat.hdr a har
                          have hc6 := hs6.mat.cell a b har hbl
                          have hf6 := hs6.mat.frozen a b har
                          rw [Gf.sclAt_here] at hc6
                          have hst := (hs6.later (dn_drew (Kit.Dn.refl _)).below).store a b har hbl (Gf.gm (m1 a b) y)
                          have HST := Lib.hid (show SoS (W6.drew.setCell ⟨Gb3 a, b, none⟩ (.int .u8 ((Gf.gm (m1 a b) y).toNat : Int))) w.heap.size gO capO N R Gb3 Gc3 (Gf.sclAt m1 a y (b + 1)) u9 lead from hst.1.congr fun i j _ _ => Gf.sclAt_step m1 a y b i j)
                          have HSB := Lib.hid ((show Below w.heap.size w W6.drew from Kit.dn hb6 1).trans hst.2)
                          have MC : Hid (∀ v : World, Calls Tryz.prog 45 #[.int .u8 ((m1 a b).toNat : Int), .int .u8 (y.toNat : Int)] v fun e w' => e = .returned (.int .u8 ((Gf.gm (m1 a b) y).toNat : Int)) ∧ w' = v) := Lib.hid fun v => rmul_u8 (m1 a b) y v
                          generalize Gf.gm (m1 a b) y = s at *
                          generalize m1 a b = p at *
                          have hpl := UInt8.toNat_lt p
                          have hsl := UInt8.toNat_lt s
                          have hb0 : (0 : Int) ≤ (b : Int) := by omega
                          have hb1 : (b : Int) < (N : Int) := by omega
                          clear hs6 hb6 hst
                          have hh6' : World.cell? { W6 with drawn := W6.drawn + 1 } ⟨gO, a, none⟩ = _ := hh6
                          have hc6' : World.cell? { W6 with drawn := W6.drawn + 1 } ⟨Gb3 a, b, none⟩ = _ := hc6
                          have hf6' : World.frozen? W6.drew ⟨Gb3 a, b, none⟩ = _ := hf6
                          have hc6'' : World.cell? W6.drew ⟨Gb3 a, b, none⟩ = _ := hc6
                          go_wp2_with fail
                          go_still_tail 15, (by kernel_rfl)
                          still_call (MC.out _)
                          repeat still_step
                          refine wpStill_nil ?_
                          change wpList _ _ _ _ _ (World.drew _)
                          go_wp2_with fail
                          go_roundw
                          case rel => exact ⟨b + 1, by omega, by go_num, HST.out, HSB.out⟩
                          case measure => simp [intOf]; omega
                        · obtain rfl : b = N := by omega
                          have HS7 : Hid (SoS W6 w.heap.size gO capO b R Gb3 Gc3 (Gf.scl m1 a y) u9 lead) := Lib.hid (hs6.congr fun i j _ hj => Gf.sclAt_full m1 a y b i j hj)
                          generalize Gf.scl m1 a y = m2 at *
                          clear hs6 hb6 HS6
                          go_wp2_with fail
                          go_loopw [15, 16, 117] (fun _ _ i wr => LcAt (fun b => Gf.clr m2 a cc b) R (fun f wr => SoS wr w.heap.size gO capO b R Gb3 Gc3 f u9 lead ∧ Below w.heap.size w wr) i wr) (fun _ _ i _ => R - (intOf i).toNat)
                          case atStart => exact ⟨0, Nat.zero_le _, rfl, HS7.out.congr fun i j _ _ => (Gf.clr_zero m2 a cc i j).symm, HB6.out⟩
                          case round =>
                            rename World => W7
                            clear HS7 HB6
                            obtain ⟨r, hrR, rfl, hs7, hb7⟩ := hrel
                            replace hs7 : SoS W7 w.heap.size gO capO b R Gb3 Gc3 (Gf.clr m2 a cc r) u9 lead := hs7
                            have HS7 := Lib.hid hs7
                            have HB7 := Lib.hid hb7
                            by_cases hrl : r < R
                            · have hh7 := hs7.mat.hdr r hrl
                              have hc7 := hs7.mat.cell r cc hrl (by omega)
                              have hcap7 := (hs7.mat.caps r hrl).2
                              unfold maxLen at hcap7
                              rw [Gf.clr_here] at hc7
                              have hr0 : (0 : Int) ≤ (r : Int) := by omega
                              have hr1 : (r : Int) < (R : Int) := by omega
                              have HSK : Hid (r = a ∨ m2 r cc = 0 → SoS W7 w.heap.size gO capO b R Gb3 Gc3 (Gf.clr m2 a cc (r + 1)) u9 lead) := Lib.hid fun h => hs7.congr fun i j _ _ => (Gf.clr_skip m2 a cc r i j h).symm
                              by_cases hra : r = a
                              · have hrb : ((r : Int) == (a : Int)) = true := by rw [hra]; simp
                                have hrd : decide ((r : Int) = (a : Int)) = true := decide_eq_true (by omega)
                                have HRA := Lib.hid hra
                                have hfl := UInt8.toNat_lt (m2 r cc)
                                clear hs7 hb7 hra
                                go_wp2_with fail
                                go_roundw
                                case rel => exact ⟨r + 1, by omega, by go_num, HSK.out (.inl HRA.out), HB7.out⟩
                                case measure => simp [intOf]; omega
                              · have hrb : ((r : Int) == (a : Int)) = false := beq_false_of_ne (by omega)
                                have hrd : decide ((r : Int) = (a : Int)) = false := decide_eq_false (by omega)
                                have HRA := Lib.hid hra
                                by_cases hf0 : m2 r cc = 0
                                · rw [hf0] at hc7
                                  have HF0 := Lib.hid hf0
                                  clear hs7 hb7 hra hf0
                                  go_wp2_with fail
                                  go_roundw
                                  case rel => exact ⟨r + 1, by omega, by go_num, HSK.out (.inr HF0.out), HB7.out⟩
                                  case measure => simp [intOf]; omega
                                · have HS8 : Hid (SoS W7 w.heap.size gO capO b R Gb3 Gc3 (Gf.addAt (Gf.clr m2 a cc r) a r (m2 r cc) 0) u9 lead) := Lib.hid (hs7.congr fun i j _ _ => (Gf.addAt_zero _ a r _ i j).symm)
                                  have HRW : Hid (∀ i j, j < b → Gf.addAt (Gf.clr m2 a cc r) a r (m2 r cc) b i j = Gf.clr m2 a cc (r + 1) i j) := Lib.hid fun i j hj => Gf.clr_row m2 a cc r b i j hra hj
                                  obtain ⟨f, hfe⟩ : ∃ f, m2 r cc = f := ⟨_, rfl⟩
                                  rw [hfe] at hc7 HS8 HRW
                                  generalize Gf.clr m2 a cc r = m3 at *
                                  have hf00 : ¬ f.toNat = 0 := fun e => hf0 (by rw [hfe]; exact Gf.u8_ext e)
                                  have hfb : ((f.toNat : Int) == 0) = false := beq_false_of_ne (by omega)
                                  have hfd : decide ((f.toNat : Int) = 0) = false := decide_eq_false (by omega)
                                  have hfl := UInt8.toNat_lt f
                                  clear hs7 hb7 hra hf0 hfe HSK
                                  go_wp2_with fail
                                  go_loopw [17, 139] (fun _ i wr => LcAt (fun x => Gf.addAt m3 a r f x) b (fun f wr => SoS wr w.heap.size gO capO b R Gb3 Gc3 f u9 lead ∧ Below w.heap.size w wr) i wr) (fun _ i _ => b - (intOf i).toNat)
                                  case atStart => exact ⟨0, Nat.zero_le _, rfl, HS8.out, HB7.out⟩
                                  case round =>
                                    rename World => W8
                                    clear HS8 HB7
                                    obtain ⟨x8, hxb, rfl, hs8, hb8⟩ := hrel
                                    replace hs8 : SoS W8 w.heap.size gO capO b R Gb3 Gc3 (Gf.addAt m3 a r f x8) u9 lead := hs8
                                    have HS9 := Lib.hid hs8
                                    have HB9 := Lib.hid hb8
                                    by_cases hxl8 : x8 < b
                                    · have hh8 := hs8.mat.hdr r hrl
                                      have hh9 := hs8.mat.hdr a har
                                      have hc8 := hs8.mat.cell r x8 hrl hxl8
                                      have hc9 := hs8.mat.cell a x8 har hxl8
                                      have hf8 := hs8.mat.frozen r x8 hrl
                                      have hcap8 := (hs8.mat.caps r hrl).2
                                      have hcap9 := (hs8.mat.caps a har).2
                                      unfold maxLen at hcap8 hcap9
                                      rw [Gf.addAt_here] at hc8
                                      rw [Gf.addAt_other m3 a r f x8 x8 (fun e => HRA.out e.symm)] at hc9
                                      have hst := (hs8.later (dn_drew (Kit.Dn.refl _)).below).store r x8 hrl hxl8 (m3 r x8 ^^^ Gf.gm f (m3 a x8))
                                      have HST := Lib.hid (show SoS (W8.drew.setCell ⟨Gb3 r, x8, none⟩ (.int .u8 ((m3 r x8 ^^^ Gf.gm f (m3 a x8)).toNat : Int))) w.heap.size gO capO b R Gb3 Gc3 (Gf.addAt m3 a r f (x8 + 1)) u9 lead from hst.1.congr fun i j _ _ => Gf.addAt_step m3 a r f x8 i j)
                                      have HSB := Lib.hid ((show Below w.heap.size w W8.drew from Kit.dn hb8 1).trans hst.2)
                                      have MC : Hid (∀ v : World, Calls Tryz.prog 45 #[.int .u8 (f.toNat : Int), .int .u8 ((m3 a x8).toNat : Int)] v fun e w' => e = .returned (.int .u8 ((Gf.gm f (m3 a x8)).toNat : Int)) ∧ w' = v) := Lib.hid fun v => rmul_u8 f (m3 a x8) v
                                      have hxo := u8c (m3 r x8) (Gf.gm f (m3 a x8))
                                      generalize m3 r x8 ^^^ Gf.gm f (m3 a x8) = s at *
                                      generalize Gf.gm f (m3 a x8) = g8 at *
                                      generalize m3 r x8 = p8 at *
                                      generalize m3 a x8 = q8 at *
                                      have hp8 := UInt8.toNat_lt p8
                                      have hq8 := UInt8.toNat_lt q8
                                      have hg8 := UInt8.toNat_lt g8
                                      have hs9 := UInt8.toNat_lt s
                                      have hx0 : (0 : Int) ≤ (x8 : Int) := by omega
                                      have hx1 : (x8 : Int) < (b : Int) := by omega
                                      have ha0' : (0 : Int) ≤ (a : Int) := by omega
                                      have ha1' : (a : Int) < (R : Int) := by omega
                                      clear hs8 hb8 hst
                                      have hh8' : World.cell? { W8 with drawn := W8.drawn + 1 } ⟨gO, r, none⟩ = _ := hh8
                                      have hh9' : World.cell? { W8 with drawn := W8.drawn + 1 } ⟨gO, a, none⟩ = _ := hh9
                                      have hc8' : World.cell? { W8 with drawn := W8.drawn + 1 } ⟨Gb3 r, x8, none⟩ = _ := hc8
                                      have hc9' : World.cell? { W8 with drawn := W8.drawn + 1 } ⟨Gb3 a, x8, none⟩ = _ := hc9
                                      have hf8' : World.frozen? W8.drew ⟨Gb3 r, x8, none⟩ = _ := hf8
                                      have hc8'' : World.cell? W8.drew ⟨Gb3 r, x8, none⟩ = _ := hc8
                                      go_wp2_with fail
                                      go_still_tail 23, (by kernel_rfl)
                                      still_call (MC.out _)
                                      repeat still_step
                                      refine wpStill_nil ?_
                                      change wpList _ _ _ _ _ (World.drew _)
                                      go_wp2_with fail
                                      go_roundw
                                      case rel => exact ⟨x8 + 1, by omega, by go_num, HST.out, HSB.out⟩
                                      case measure => simp [intOf]; omega
                                    · obtain rfl : x8 = b := by omega
                                      have HSX : Hid (SoS W8 w.heap.size gO capO x8 R Gb3 Gc3 (Gf.clr m2 a cc (r + 1)) u9 lead) := Lib.hid (hs8.congr fun i j _ hj => HRW.out i j hj)
                                      clear hs8 hb8 HS9
                                      go_wp2_with fail
                                      go_roundw
                                      case rel => exact ⟨r + 1, by omega, by go_num, HSX.out, HB9.out⟩
                                      case measure => simp [intOf]; omega
                            · obtain rfl : r = R := by omega
                              clear hs7 hb7
                              have HV8 : Hid ((W7.alloc (.cells #[.int .i64 (cc : Int)] 3)).ownsRow w.heap.size 3 1 u9 lead.length (intsV (lead.map fun c : Nat => (c : Int)))) := Lib.hid (World.ownsRow.alloc HS7.out.hl _)
                              have HB8 : Hid (Below w.heap.size w (W7.alloc (.cells #[.int .i64 (cc : Int)] 3))) := Lib.hid (HB7.out.alloc HB7.out.size _)
                              have HS8 : Hid (SoS (W7.alloc (.cells #[.int .i64 (cc : Int)] 3)) w.heap.size gO capO b r Gb3 Gc3 (Gf.clr m2 a cc r) u9 lead) := Lib.hid (HS7.out.later ((Below.refl _ _).alloc (Nat.le_refl _) _))
                              have HC8 : Hid ((W7.alloc (.cells #[.int .i64 (cc : Int)] 3)).cell? ⟨W7.heap.size, 0, none⟩ = some (.int .i64 (cc : Int))) := Lib.hid (cell_of_row _ _ 0 _ _ _ (World.alloc_heap_new W7 _))
                              go_wp2_with (at_builtin; refine append_int rfl (.tmp 167) (.tmp 169) rfl w.heap.size _ lead.length (lead.map fun c : Nat => (c : Int)) rfl HV8.out W7.heap.size (cc : Int) rfl HC8.out (by have := HA.out; omega) HB8.out.size ?_)
                              intro v9 w9 hv hg
                              have HS9 := Lib.hid (HS8.out.push cc hv hg)
                              have HB9 := Lib.hid (own_belowI HB8.out HV8.out hg)
                              clear hv hg
                              go_wp2_with fail
                              go_roundw
                              case rel => exact ⟨lead ++ [cc], _, Gb3, Gc3, cc + 1, by omega, by go_num, by rw [List.length_append, HA.out]; rfl, HEL2.out, HS9.out, HB9.out⟩
                              case measure => simp [intOf]; omega
              · obtain rfl : q = R := by omega
                have hqd : decide ((q : Int) < (q : Int)) = false := decide_eq_false (by omega)
                go_wp2_with fail
                go_roundw
                case rel =>
                  exact ⟨lead, m, Gb2, Gc2, cc + 1, by omega, by go_num, by rw [HA.out], HEL.out.skip fun i h1 h2 => HZ.out i (by rw [← HA.out]; exact h1) h2, HS4.out, HB4.out⟩
                case measure => simp [intOf]; omega
          · have hd2 : decide ((a : Int) < (R : Int)) = false := decide_eq_false (by omega)
            have HBW := HB2
            clear HB HM HB2
            have HSO3 := HSO
            have HZR : Hid (cc = n ∨ a = R) := Lib.hid (by omega)
            go_wp2_with fail
            go_loopw [18] (fun iv wr => L7At m R a n W3 iv wr) (fun iv _ => R - (intOf iv).toNat)
            case atStart => exact ⟨a, Nat.le_refl _, haR, rfl, fun i h1 h2 => absurd h2 (by omega), Kit.Dn.refl _⟩
            case round =>
              rename World => W4
              obtain ⟨q, hq1, hq2, rfl, hz, hd⟩ := hrel
              have HZ := Lib.hid hz
              have HD := Lib.hid hd
              have HS4 := Lib.hid (HSO.out.later hd.below)
              have HB4 := Lib.hid (Kit.step HBW.out hd.below)
              clear hz hd
              by_cases hq : q < R
              · have hh := HS4.out.mat.hdr q hq
                have hcl := HS4.out.mat.cell q n hq hnN
                have hcap := (HS4.out.mat.caps q hq).2
                unfold maxLen at hcap
                have hq0 : (0 : Int) ≤ (q : Int) := by omega
                have hqR : (q : Int) < (R : Int) := by omega
                have hqd : decide ((q : Int) < (R : Int)) = true := decide_eq_true hqR
                have hn0 : (0 : Int) ≤ (n : Int) := by omega
                have hnNi : (n : Int) < (N : Int) := by omega
                by_cases hx : m q n = 0
                · rw [hx] at hcl
                  go_wp2_with fail
                  go_roundw
                  case rel =>
                    refine ⟨q + 1, by omega, by omega, by go_num, fun i h1 h2 => ?_, HD.out⟩
                    by_cases e : i = q
                    · rw [e]; exact hx
                    · exact HZ.out i h1 (by omega)
                  case measure => simp [intOf]; omega
                · have HNV : Hid (∀ x, ¬ Gf.Sol mm R n x) := Lib.hid fun x => by
                    have hcc2 : cc = n := by rcases HZR.out with h | h <;> omega
                    have h := HEL.out
                    rw [hcc2] at h
                    exact h.never (i := q) (by rw [HA.out]; exact hq1) hq hx x
                  obtain ⟨x, hxe⟩ : ∃ x, m q n = x := ⟨_, rfl⟩
                  rw [hxe] at hcl
                  have hx0 : ¬ x.toNat = 0 := fun e => hx (by rw [hxe]; exact Gf.u8_ext e)
                  have hxb : ((x.toNat : Int) == 0) = false := beq_false_of_ne (by omega)
                  have hxd : decide ((x.toNat : Int) = 0) = false := decide_eq_false (by omega)
                  have hxn : ((x.toNat : Int) != 0) = true := by rw [bne_iff_ne]; omega
                  have hxl := UInt8.toNat_lt x
                  clear hx hxe
                  go_wp2_with fail
                  go_ret2
                  exact ⟨HB4.out, .inr ⟨HNV.out, rfl⟩⟩
              · obtain rfl : q = R := by omega
                have hqd : decide ((q : Int) < (q : Int)) = false := decide_eq_false (by omega)
                have hn0 : (0 : Int) ≤ (n : Int) := by omega
                have hnNi : (n : Int) < (N : Int) := by omega
                obtain ⟨i0, hi, hz0, hz1, hz2⟩ := info_parts info_u8
                go_wp2_with (at_make; refine wpList_make_full _ rfl _ _ 22 rfl 0 5 i0 (.int .u8 0) 1 Tryz.underlying22 hi hz0 hz1 _ _ _ _ n rfl rfl (by omega) (by omega) (by rw [hz2]; omega) (by unfold maxLen; omega) (Nat.zero_le _) ?_)
                intro w5 hown hgrow
                have hb5 : Below W4.heap.size W4 w5 := (Below.refl _ _).grown hgrow (Nat.le_refl _) (fun k h => by cases h)
                have HX5 : Hid (XoAt m n lead W4 0 (List.replicate n 0) w5) := Lib.hid ⟨by simp, fun t h => absurd h (by omega), fun j _ => zeros_co n j, buf_made hown, hb5⟩
                have hld := owns_ints HS4.out.hl (by simp)
                obtain ⟨ol, cl, e9, hlr⟩ := hld
                rw [List.length_map, HA.out] at e9
                subst e9
                have hlc := hlr.cap
                have hll := hlr.le
                simp only [intsV_length, List.length_map] at hll
                rw [HA.out] at hll
                unfold maxLen at hlc
                have HLR := Lib.hid hlr
                clear hown hgrow hb5 hlr
                go_wp2_with fail
                go_loopw [20, 21, 192] (fun _ _ iv wr => XtAt m n lead W4 iv wr) (fun _ _ iv _ => a - (intOf iv).toNat)
                case atStart => exact ⟨0, _, Nat.zero_le _, rfl, HX5.out⟩
                case round =>
                  rename World => W6
                  clear HX5
                  obtain ⟨t, xs, ht, rfl, hxo⟩ := hrel
                  rw [HA.out] at ht
                  have HXO := Lib.hid hxo
                  by_cases htl : t < a
                  · have HS6 := Lib.hid (HS4.out.later hxo.below)
                    have hcol := HEL.out.low t (by rw [HA.out]; exact htl)
                    obtain ⟨b3, off3, rfl, hb3, hcell3⟩ := (HLR.out.later hxo.below).cells (by simp; rw [HA.out]; omega)
                    obtain ⟨col, hcole⟩ : ∃ col, lead.getD t 0 = col := ⟨_, rfl⟩
                    rw [hcole] at hcol
                    have hc3 : W6.cell? ⟨b3, off3 + t, none⟩ = some (.int .i64 (col : Int)) := hcell3 t _ (by
                      have h1 : t < lead.length := by rw [HA.out]; exact htl
                      rw [← hcole]
                      simp [intsV, List.getD_eq_getElem?_getD, h1])
                    have hh := HS6.out.mat.hdr t (by omega)
                    have hcl := HS6.out.mat.cell t n (by omega) hnN
                    have hcap := (HS6.out.mat.caps t (by omega)).2
                    unfold maxLen at hcap
                    have hcb := hxo.buf.cell col (by rw [hxo.len]; omega)
                    have hfb := hxo.buf.frozen col
                    have HST := Lib.hid (hxo.step HEL.out (by rw [HA.out]; exact htl) (by rw [hcole]; omega))
                    rw [hcole] at HST
                    have ht0 : (0 : Int) ≤ (t : Int) := by omega
                    have ht1 : (t : Int) < (a : Int) := by omega
                    have ht2 : (t : Int) < (q : Int) := by omega
                    have hcol0 : (0 : Int) ≤ (col : Int) := by omega
                    have hcol1 : (col : Int) < (n : Int) := by omega
                    have hml := UInt8.toNat_lt (m t n)
                    clear hxo hcell3 hcole
                    go_wp2_with fail
                    go_roundw
                    case rel => exact ⟨t + 1, _, by rw [HA.out]; omega, by go_num, HST.out⟩
                    case measure => simp [intOf]; omega
                  · have hta : t = lead.length := by rw [HA.out]; omega
                    have HSL : Hid (Gf.Sol mm q n (co xs)) := Lib.hid (HEL.out.done hcc (by rw [HA.out]; exact HZR.out) (fun i h1 h2 => HZ.out i (by rw [← HA.out]; exact h1) h2) (fun t' ht' => hxo.at_ t' (by omega)) (fun j hj => hxo.none_ j fun t' ht' => hj t' (by omega)))
                    have HBX := Lib.hid (Kit.step HB4.out hxo.below)
                    have HRX : Hid (RowV xs (.slice (some ⟨W4.heap.size, 0, none⟩) n n) W6) := Lib.hid (by
                      have := hxo.buf.row
                      exact ⟨_, _, by rw [hxo.len], this⟩)
                    have HXL := Lib.hid hxo.len
                    obtain rfl : t = a := by rw [hta, HA.out]
                    clear hxo hta
                    go_wp2_with fail
                    go_ret2
                    exact ⟨HBX.out, .inl ⟨xs, _, HXL.out, HSL.out, rfl, HRX.out⟩⟩
        · have hd1 : decide ((cc : Int) < (n : Int)) = false := decide_eq_false (by omega)
          have HBW := HB2
          clear HB HM HB2
          have HSO3 := HSO
          have HZR : Hid (cc = n ∨ a = R) := Lib.hid (by omega)
          go_wp2_with fail
          go_loopw [18] (fun iv wr => L7At m R a n W3 iv wr) (fun iv _ => R - (intOf iv).toNat)
          case atStart => exact ⟨a, Nat.le_refl _, haR, rfl, fun i h1 h2 => absurd h2 (by omega), Kit.Dn.refl _⟩
          case round =>
            rename World => W4
            obtain ⟨q, hq1, hq2, rfl, hz, hd⟩ := hrel
            have HZ := Lib.hid hz
            have HD := Lib.hid hd
            have HS4 := Lib.hid (HSO.out.later hd.below)
            have HB4 := Lib.hid (Kit.step HBW.out hd.below)
            clear hz hd
            by_cases hq : q < R
            · have hh := HS4.out.mat.hdr q hq
              have hcl := HS4.out.mat.cell q n hq hnN
              have hcap := (HS4.out.mat.caps q hq).2
              unfold maxLen at hcap
              have hq0 : (0 : Int) ≤ (q : Int) := by omega
              have hqR : (q : Int) < (R : Int) := by omega
              have hqd : decide ((q : Int) < (R : Int)) = true := decide_eq_true hqR
              have hn0 : (0 : Int) ≤ (n : Int) := by omega
              have hnNi : (n : Int) < (N : Int) := by omega
              by_cases hx : m q n = 0
              · rw [hx] at hcl
                go_wp2_with fail
                go_roundw
                case rel =>
                  refine ⟨q + 1, by omega, by omega, by go_num, fun i h1 h2 => ?_, HD.out⟩
                  by_cases e : i = q
                  · rw [e]; exact hx
                  · exact HZ.out i h1 (by omega)
                case measure => simp [intOf]; omega
              · have HNV : Hid (∀ x, ¬ Gf.Sol mm R n x) := Lib.hid fun x => by
                  have hcc2 : cc = n := by rcases HZR.out with h | h <;> omega
                  have h := HEL.out
                  rw [hcc2] at h
                  exact h.never (i := q) (by rw [HA.out]; exact hq1) hq hx x
                obtain ⟨x, hxe⟩ : ∃ x, m q n = x := ⟨_, rfl⟩
                rw [hxe] at hcl
                have hx0 : ¬ x.toNat = 0 := fun e => hx (by rw [hxe]; exact Gf.u8_ext e)
                have hxb : ((x.toNat : Int) == 0) = false := beq_false_of_ne (by omega)
                have hxd : decide ((x.toNat : Int) = 0) = false := decide_eq_false (by omega)
                have hxn : ((x.toNat : Int) != 0) = true := by rw [bne_iff_ne]; omega
                have hxl := UInt8.toNat_lt x
                clear hx hxe
                go_wp2_with fail
                go_ret2
                exact ⟨HB4.out, .inr ⟨HNV.out, rfl⟩⟩
            · obtain rfl : q = R := by omega
              have hqd : decide ((q : Int) < (q : Int)) = false := decide_eq_false (by omega)
              have hn0 : (0 : Int) ≤ (n : Int) := by omega
              have hnNi : (n : Int) < (N : Int) := by omega
              obtain ⟨i0, hi, hz0, hz1, hz2⟩ := info_parts info_u8
              go_wp2_with (at_make; refine wpList_make_full _ rfl _ _ 22 rfl 0 5 i0 (.int .u8 0) 1 Tryz.underlying22 hi hz0 hz1 _ _ _ _ n rfl rfl (by omega) (by omega) (by rw [hz2]; omega) (by unfold maxLen; omega) (Nat.zero_le _) ?_)
              intro w5 hown hgrow
              have hb5 : Below W4.heap.size W4 w5 := (Below.refl _ _).grown hgrow (Nat.le_refl _) (fun k h => by cases h)
              have HX5 : Hid (XoAt m n lead W4 0 (List.replicate n 0) w5) := Lib.hid ⟨by simp, fun t h => absurd h (by omega), fun j _ => zeros_co n j, buf_made hown, hb5⟩
              have hld := owns_ints HS4.out.hl (by simp)
              obtain ⟨ol, cl, e9, hlr⟩ := hld
              rw [List.length_map, HA.out] at e9
              subst e9
              have hlc := hlr.cap
              have hll := hlr.le
              simp only [intsV_length, List.length_map] at hll
              rw [HA.out] at hll
              unfold maxLen at hlc
              have HLR := Lib.hid hlr
              clear hown hgrow hb5 hlr
              go_wp2_with fail
              go_loopw [20, 21, 192] (fun _ _ iv wr => XtAt m n lead W4 iv wr) (fun _ _ iv _ => a - (intOf iv).toNat)
              case atStart => exact ⟨0, _, Nat.zero_le _, rfl, HX5.out⟩
              case round =>
                rename World => W6
                clear HX5
                obtain ⟨t, xs, ht, rfl, hxo⟩ := hrel
                rw [HA.out] at ht
                have HXO := Lib.hid hxo
                by_cases htl : t < a
                · have HS6 := Lib.hid (HS4.out.later hxo.below)
                  have hcol := HEL.out.low t (by rw [HA.out]; exact htl)
                  obtain ⟨b3, off3, rfl, hb3, hcell3⟩ := (HLR.out.later hxo.below).cells (by simp; rw [HA.out]; omega)
                  obtain ⟨col, hcole⟩ : ∃ col, lead.getD t 0 = col := ⟨_, rfl⟩
                  rw [hcole] at hcol
                  have hc3 : W6.cell? ⟨b3, off3 + t, none⟩ = some (.int .i64 (col : Int)) := hcell3 t _ (by
                    have h1 : t < lead.length := by rw [HA.out]; exact htl
                    rw [← hcole]
                    simp [intsV, List.getD_eq_getElem?_getD, h1])
                  have hh := HS6.out.mat.hdr t (by omega)
                  have hcl := HS6.out.mat.cell t n (by omega) hnN
                  have hcap := (HS6.out.mat.caps t (by omega)).2
                  unfold maxLen at hcap
                  have hcb := hxo.buf.cell col (by rw [hxo.len]; omega)
                  have hfb := hxo.buf.frozen col
                  have HST := Lib.hid (hxo.step HEL.out (by rw [HA.out]; exact htl) (by rw [hcole]; omega))
                  rw [hcole] at HST
                  have ht0 : (0 : Int) ≤ (t : Int) := by omega
                  have ht1 : (t : Int) < (a : Int) := by omega
                  have ht2 : (t : Int) < (q : Int) := by omega
                  have hcol0 : (0 : Int) ≤ (col : Int) := by omega
                  have hcol1 : (col : Int) < (n : Int) := by omega
                  have hml := UInt8.toNat_lt (m t n)
                  clear hxo hcell3 hcole
                  go_wp2_with fail
                  go_roundw
                  case rel => exact ⟨t + 1, _, by rw [HA.out]; omega, by go_num, HST.out⟩
                  case measure => simp [intOf]; omega
                · have hta : t = lead.length := by rw [HA.out]; omega
                  have HSL : Hid (Gf.Sol mm q n (co xs)) := Lib.hid (HEL.out.done hcc (by rw [HA.out]; exact HZR.out) (fun i h1 h2 => HZ.out i (by rw [← HA.out]; exact h1) h2) (fun t' ht' => hxo.at_ t' (by omega)) (fun j hj => hxo.none_ j fun t' ht' => hj t' (by omega)))
                  have HBX := Lib.hid (Kit.step HB4.out hxo.below)
                  have HRX : Hid (RowV xs (.slice (some ⟨W4.heap.size, 0, none⟩) n n) W6) := Lib.hid (by
                    have := hxo.buf.row
                    exact ⟨_, _, by rw [hxo.len], this⟩)
                  have HXL := Lib.hid hxo.len
                  obtain rfl : t = a := by rw [hta, HA.out]
                  clear hxo hta
                  go_wp2_with fail
                  go_ret2
                  exact ⟨HBX.out, .inl ⟨xs, _, HXL.out, HSL.out, rfl, HRX.out⟩⟩
end Go.Proofs.YtgchfijeiggimaaGreatDoor
