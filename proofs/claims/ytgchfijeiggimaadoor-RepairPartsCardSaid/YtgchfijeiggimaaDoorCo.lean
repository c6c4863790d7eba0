/- The code's mending of a word by a locator and an evaluator. -/
import Derived.Test.YtgchfijeiggimaaDoorAm
import Derived.Test.YtgchfijeiggimaaDoorPr
import Derived.Test.YtgchfijeiggimaaDoorLph
namespace Go.Proofs.YtgchfijeiggimaaDoor
open Go.RowKit
set_option linter.unusedVariables false
set_option linter.unusedSimpArgs false
def amS (G O : List UInt8) (n : Nat) : List (Nat × UInt8) := (srP G n n).map fun p => (p, amt G O n p)
@[simp] theorem amS_length (G O : List UInt8) (n : Nat) : (amS G O n).length = (srP G n n).length := by simp [amS]
theorem putW_step (W G O : List UInt8) (n k p : Nat) (hk : k < (srP G n n).length) (hp : (srP G n n).getD k 0 = p) :
    (putW W ((amS G O n).take k)).set p (co (putW W ((amS G O n).take k)) p ^^^ amt G O n p) = putW W ((amS G O n).take (k + 1)) := by
  have e : (amS G O n).take (k + 1) = (amS G O n).take k ++ [(p, amt G O n p)] := by
    rw [List.take_add_one]
    congr 1
    have h1 : (amS G O n)[k]? = some (p, amt G O n p) := by
      unfold amS
      rw [List.getElem?_map, List.getElem?_eq_getElem hk]
      rw [List.getD_eq_getElem?_getD, List.getElem?_eq_getElem hk] at hp
      simp at hp
      simp [hp]
    rw [h1]; rfl
  rw [e, putW_snoc]
def CoAt (W G O : List UInt8) (n g cap B gf : Nat) (xS : Value) (fc : Array Value) (w : World) (iv : Value) (wr : World) : Prop :=
  ∃ k : Nat, k ≤ (srP G n n).length ∧ iv = .int .i64 k ∧ Buf wr g cap (putW W ((amS G O n).take k)) ∧ wr.ownsRow B 3 1 xS (srP G n n).length (intsV (srI G n n)) ∧ wr.heap[gf]? = some (.cells fc 44 (0, 0)) ∧ Below w.heap.size w wr
theorem found_keeps {w w' : World} {gf : Nat} {fc : Array Value} (h : w.heap[gf]? = some (.cells fc 44 (0, 0))) (hb : Below w.heap.size w w') : w'.heap[gf]? = some (.cells fc 44 (0, 0)) := by
  rw [hb.block _ (Array.getElem?_eq_some_iff.1 h).1]; exact h
theorem found_cell {w : World} {gf : Nat} {a b c : Value} (h : w.heap[gf]? = some (.cells #[a, b, c] 44 (0, 0))) : w.cell? ⟨gf, 0, none⟩ = some a ∧ w.cell? ⟨gf, 1, none⟩ = some b ∧ w.cell? ⟨gf, 2, none⟩ = some c :=
  ⟨by rw [cell_of_row _ _ 0 _ _ _ h]; rfl, by rw [cell_of_row _ _ 1 _ _ _ h]; rfl, by rw [cell_of_row _ _ 2 _ _ _ h]; rfl⟩
set_option maxRecDepth 100000 in
set_option maxHeartbeats 4000000 in
theorem corrected_lost (W G O : List UInt8) (x0 : Value) (oW oG oO : Option Addr) (cW cG cO n : Nat) (w : World) (hW : RowIs w oW (bytesV W) cW) (hG : RowIs w oG (bytesV G) cG) (hO : RowIs w oO (bytesV O) cO)
    (hn : W.length = n) (h33 : 33 ≤ n) (h255 : n ≤ 255) (hl : G.length ≤ 1000) (hS : (srP G n n).length + 1 ≠ tl G G.length) (u : TypeId) (v : Value) (hE : w.cell? ⟨16, 0, none⟩ = some (.iface u v)) :
    Calls Tryd.prog 26 #[.slice oW n cW, .agg #[x0, .slice oG G.length cG, .slice oO O.length cO]] w fun e w' => e = .returned (.tuple #[.slice none 0 0, .iface u v]) ∧ Below w.heap.size w w' := by
  obtain ⟨w1, hw1⟩ : ∃ w1, w.alloc (.cells #[x0, .slice oG G.length cG, .slice oO O.length cO] 44) = w1 := ⟨_, rfl⟩
  have hb1 : Below w.heap.size w w1 := by rw [← hw1]; exact (Below.refl _ _).alloc (Nat.le_refl _) _
  have hg1 : w1.heap[w.heap.size]? = some (.cells #[x0, .slice oG G.length cG, .slice oO O.length cO] 44 (0, 0)) := by rw [← hw1]; exact World.alloc_heap_new _ _
  have hcl := clone_own W oW cW w1 (hW.later hb1) (by omega) (by omega)
  rw [hn] at hcl
  have HCL := Lib.hid hcl
  have HG := Lib.hid hG
  have HE := Lib.hid hE
  have HS := Lib.hid hS
  have HB1 := Lib.hid hb1
  have HW1 := Lib.hid hw1
  have HG1 := Lib.hid hg1
  have HN := Lib.hid hn
  have h33 := Lib.hid h33
  have h255 := Lib.hid h255
  have hbw : n ≤ cW := by have := hW.le; simp at this; omega
  have hbc : cW ≤ 9223372036854775807 := by have := hW.cap; unfold maxLen at this; omega
  clear hW hG hO hn hb1 hw1 hg1 hcl hS hE
  go_enter Tryd.func26, Tryd.ntmps26
  go_wp2_with (rw [HW1.out])
  refine HCL.out.mono ?_; rintro e w2 ⟨g, cap, rfl, hgl, hbuf, hb2⟩
  have HB2 := Lib.hid (Kit.step HB1.out hb2)
  have HG2 := Lib.hid (found_keeps HG1.out hb2)
  have hc2 := (found_cell HG2.out).2.1
  have HSR := Lib.hid (search_any G n cG oG w2 (HG.out.later HB2.out) h33.out h255.out)
  clear hgl hbuf hb2
  rw [HN.out]
  go_wp2_with fail
  refine HSR.out.mono ?_; rintro e w3 ⟨x, B, rfl, hB, hv, hb3⟩
  obtain ⟨oS, cS, rfl, hRS⟩ := owns_ints hv rfl
  have HB3 := Lib.hid (Kit.step HB2.out hb3)
  have HG3 := Lib.hid (found_keeps HG2.out hb3)
  have hc3 := (found_cell HG3.out).2.1
  have HDG := Lib.hid (deg_any oG G cG w3 (HG.out.later HB3.out))
  have hsl := srI_length G n n
  have hne : ¬ (((srI G n n).length : Int) = (tl G G.length : Int) - 1) := by have := HS.out; omega
  have hnb : (((srI G n n).length : Int) == (tl G G.length : Int) - 1) = false := beq_false_of_ne hne
  have hnt : (((srI G n n).length : Int) != (tl G G.length : Int) - 1) = true := by rw [bne_iff_ne]; exact hne
  have hnd : decide (((srI G n n).length : Int) = (tl G G.length : Int) - 1) = false := decide_eq_false hne
  clear hv hRS hb3 hc2 hsl
  go_wp2_with fail
  refine HDG.out.mono ?_; rintro e w4 ⟨rfl, hb4⟩
  have HB4 := Lib.hid (Kit.step HB3.out hb4)
  have hE4 := cell_later HB4.out HE.out
  clear hb4 hc3
  go_wp2_with fail
  go_quiet (fail)
  go_wp2
  go_ret2
  exact ⟨rfl, HB4.out.trans ⟨rfl, rfl, rfl, Nat.le_refl _, fun _ _ => rfl⟩⟩
set_option maxRecDepth 100000 in
set_option maxHeartbeats 8000000 in
theorem corrected_ok (W G O : List UInt8) (x0 : Value) (oW oG oO : Option Addr) (cW cG cO n : Nat) (w : World) (hW : RowIs w oW (bytesV W) cW) (hG : RowIs w oG (bytesV G) cG) (hO : RowIs w oO (bytesV O) cO)
    (hn : W.length = n) (h33 : 33 ≤ n) (h255 : n ≤ 255) (hl : G.length ≤ 1000) (hS : (srP G n n).length + 1 = tl G G.length) (hne : ∀ p ∈ srP G n n, evL (slopeL G) (vi n p) ≠ 0) :
    Calls Tryd.prog 26 #[.slice oW n cW, .agg #[x0, .slice oG G.length cG, .slice oO O.length cO]] w fun e w' => ∃ x, e = .returned (.tuple #[x, .nilIface]) ∧ RowV (putW W (amS G O n)) x w' ∧ Below w.heap.size w w' := by
  obtain ⟨w1, hw1⟩ : ∃ w1, w.alloc (.cells #[x0, .slice oG G.length cG, .slice oO O.length cO] 44) = w1 := ⟨_, rfl⟩
  have hb1 : Below w.heap.size w w1 := by rw [← hw1]; exact (Below.refl _ _).alloc (Nat.le_refl _) _
  have hg1 : w1.heap[w.heap.size]? = some (.cells #[x0, .slice oG G.length cG, .slice oO O.length cO] 44 (0, 0)) := by rw [← hw1]; exact World.alloc_heap_new _ _
  have hcl := clone_own W oW cW w1 (hW.later hb1) (by omega) (by omega)
  rw [hn] at hcl
  have HCL := Lib.hid hcl
  have HG := Lib.hid hG
  have HO := Lib.hid hO
  have HS := Lib.hid hS
  have HNE := Lib.hid hne
  have HB1 := Lib.hid hb1
  have HW1 := Lib.hid hw1
  have HG1 := Lib.hid hg1
  have HN := Lib.hid hn
  have HGL := Lib.hid hl
  have h33 := Lib.hid h33
  have h255 := Lib.hid h255
  have hbw : n ≤ cW := by have := hW.le; simp at this; omega
  have hbc : cW ≤ 9223372036854775807 := by have := hW.cap; unfold maxLen at this; omega
  clear hW hG hO hn hb1 hw1 hg1 hcl hS hne hl
  go_enter Tryd.func26, Tryd.ntmps26
  go_wp2_with (rw [HW1.out])
  refine HCL.out.mono ?_; rintro e w2 ⟨g, cap, rfl, hgl, hbuf, hb2⟩
  have HB2 := Lib.hid (Kit.step HB1.out hb2)
  have HG2 := Lib.hid (found_keeps HG1.out hb2)
  have hc2 := (found_cell HG2.out).2.1
  have HSR := Lib.hid (search_any G n cG oG w2 (HG.out.later HB2.out) h33.out h255.out)
  have HGG : Hid (w.heap.size ≤ g) := Lib.hid (by have := HB1.out.size; omega)
  have HBF2 := Lib.hid hbuf
  clear hgl hbuf hb2
  rw [HN.out]
  go_wp2_with fail
  refine HSR.out.mono ?_; rintro e w3 ⟨x, B, rfl, hB, hv, hb3⟩
  obtain ⟨oS, cS, rfl, hRS⟩ := owns_ints hv rfl
  have hsl := srI_length G n n
  rw [hsl] at hv ⊢
  have HB3 := Lib.hid (Kit.step HB2.out hb3)
  have HG3 := Lib.hid (found_keeps HG2.out hb3)
  have HBF3 := Lib.hid (HBF2.out.later hb3)
  have HV3 := Lib.hid hv
  have hc3 := (found_cell HG3.out).2.1
  have HDG := Lib.hid (deg_any oG G cG w3 (HG.out.later HB3.out))
  have hcS := hRS.le
  have hcS2 := hRS.cap
  simp only [intsV_length] at hcS
  rw [hsl] at hcS
  unfold maxLen at hcS2
  have heq : ((tl G G.length : Int) - 1) = ((srP G n n).length : Int) := by have := HS.out; omega
  rw [heq] at HDG
  have hnt : (((srP G n n).length : Int) != ((srP G n n).length : Int)) = false := by simp
  have hnd : decide (((srP G n n).length : Int) = ((srP G n n).length : Int)) = true := decide_eq_true rfl
  have HSL : Hid ((srP G n n).length ≤ n) := Lib.hid (srP_le G n n)
  have HLT : Hid (∀ p ∈ srP G n n, p < n) := Lib.hid fun p hp => (mem_srP.1 hp).1
  obtain ⟨m, hm⟩ : ∃ m, (srP G n n).length = m := ⟨_, rfl⟩
  have HM := Lib.hid hm
  rw [hm] at hcS hnt hnd HV3 HSL HDG ⊢
  clear hv hRS hb3 hc2 hsl heq hB hm
  go_wp2_with fail
  refine HDG.out.mono ?_; rintro e w4 ⟨rfl, hb4⟩
  have HB4 := Lib.hid (Kit.step HB3.out hb4)
  have HG4 := Lib.hid (found_keeps HG3.out hb4)
  have HBF4 := Lib.hid (HBF3.out.later hb4)
  have HV4 := Lib.hid (own_laterI HV3.out hb4)
  clear hb4 hc3
  go_wp2_with fail
  go_loopw [10, 11, 12, 30] (fun _ _ _ iv wr => CoAt W G O n g cap B w.heap.size (.slice oS m cS) #[x0, .slice oG G.length cG, .slice oO O.length cO] w iv wr) (fun _ _ _ iv _ => m - (intOf iv).toNat)
  case atStart => exact ⟨0, Nat.zero_le _, rfl, by rw [List.take_zero]; exact HBF4.out, by rw [HM.out]; exact HV4.out, HG4.out, HB4.out⟩
  case round =>
    clear HBF2 HBF3 HBF4 HV3 HV4 HG2 HG3 HG4 HB2 HB3 HB4 HCL HSR HDG
    obtain ⟨k, hk, rfl, hbuf, hv, hg5, hb⟩ := hrel
    have HBF := Lib.hid hbuf
    have HV := Lib.hid hv
    have HG5 := Lib.hid hg5
    have HB5 := Lib.hid hb
    by_cases hlt : k < (srP G n n).length
    · obtain ⟨o', c', e', hr0⟩ := owns_ints hv (by rw [srI_length])
      have hr : RowIs wr oS (intsV (srI G n n)) cS := by
        injection e' with e1 _ e3
        rw [e1, e3]; exact hr0
      clear e' hr0
      obtain ⟨b, off, rfl, hcell⟩ := ints_cell hr k (by rw [srI_length]; exact hlt)
      obtain ⟨p, hp⟩ : ∃ p, (srP G n n).getD k 0 = p := ⟨_, rfl⟩
      have hci : ci (srI G n n) k = (p : Int) := by
        unfold ci srI
        rw [← hp, List.getD_eq_getElem?_getD, List.getD_eq_getElem?_getD, List.getElem?_map, List.getElem?_eq_getElem hlt]
        rfl
      have hpm : p ∈ srP G n n := by
        rw [← hp, List.getD_eq_getElem?_getD, List.getElem?_eq_getElem hlt]
        exact List.getElem_mem hlt
      have hpn := HLT.out p hpm
      rw [hci] at hcell
      have hltm : k < m := by rw [← HM.out]; exact hlt
      have hk0 : (0 : Int) ≤ (k : Int) := by omega
      have hk1 : (k : Int) < (m : Int) := by omega
      have hp0 : (0 : Int) ≤ (p : Int) := by omega
      have hp1 : (p : Int) < (n : Int) := by omega
      have hylen : (putW W ((amS G O n).take k)).length = n := by rw [putW_length, HN.out]
      have HAM := Lib.hid (amount_ok G O x0 oG oO cG cO n p wr (HG.out.later hb) (HO.out.later hb) h33.out h255.out hpn HGL.out (HNE.out p hpm))
      have HST := Lib.hid (putW_step W G O n k p hlt hp)
      generalize amt G O n p = am at HAM HST
      generalize hY : putW W ((amS G O n).take k) = Y at HBF HST hylen
      have HYL := Lib.hid hylen
      have HKL := Lib.hid hltm
      have HPN := Lib.hid hpn
      clear hbuf hv hg5 hb hr hci hpm hp hpn hlt hY hylen hltm
      go_wp2_with (refine wpList_load_row rfl 44 (.tmp 3) rfl w.heap.size rfl 44 _ (0, 0) _ HG5.out Tryd.underlying44 rfl fnd_size ?_)
      refine HAM.out.mono ?_; rintro e w6 ⟨rfl, hb6⟩
      have HB6 := Lib.hid (Kit.step HB5.out hb6)
      have HG6 := Lib.hid (found_keeps HG5.out hb6)
      have HBF6 := Lib.hid (HBF.out.later hb6)
      have HV6 := Lib.hid (own_laterI HV.out hb6)
      have hcp := HBF6.out.cell p (by rw [HYL.out]; exact HPN.out)
      have hfp := HBF6.out.frozen p
      have hcp2 := HBF6.out.le
      rw [HYL.out] at hcp2
      have hcp3 := hcp2.1
      have hcp4 := hcp2.2
      unfold maxLen at hcp4
      have hstx := HBF6.out.store p (co Y p ^^^ am)
      rw [HST.out] at hstx
      have HBF7 := Lib.hid hstx.1
      obtain ⟨cur, hcur⟩ := HBF6.out.cells
      have HV7 := Lib.hid (own_only HV6.out hstx.2 hcur (by decide))
      have HB7 := Lib.hid (HB6.out.trans (Only.below hstx.2 HGG.out HB6.out.size))
      have HG7 : Hid ((w6.setCell ⟨g, p, none⟩ (.int .u8 ((co Y p ^^^ am).toNat : Int))).heap[w.heap.size]? = some (.cells #[x0, .slice oG G.length cG, .slice oO O.length cO] 44 (0, 0))) := Lib.hid (by
        rw [World.grownBy.block hstx.2 _ (Array.getElem?_eq_some_iff.1 HG6.out).1 (fun e => by
          cases e
          have h2 := HG6.out
          rw [hcur] at h2
          injection h2 with h2
          injection h2 with _ h2 _
          exact absurd h2 (by decide))]
        exact HG6.out)
      have HAD : Hid (∀ v, Calls Tryd.prog 56 #[.int .u8 ((co Y p).toNat : Int), .int .u8 (am.toNat : Int)] v fun e w' => e = .returned (.int .u8 ((co Y p ^^^ am).toNat : Int)) ∧ w' = v) := Lib.hid fun v => add_u8 _ _ v
      generalize co Y p ^^^ am = nw at *
      generalize co Y p = ow at *
      clear hb6 hstx hcur hcp2
      go_wp2_with fail
      refine (HAD.out _).mono ?_; rintro e w7 ⟨rfl, rfl⟩
      go_wp2_with fail
      go_roundw
      case rel => exact ⟨k + 1, by have := HM.out; have := HKL.out; omega, by go_num, HBF7.out, HV7.out, HG7.out, HB7.out⟩
      case measure => have := HKL.out; simp [intOf]; omega
    · obtain rfl : k = (srP G n n).length := by omega
      have HBE : Hid (Buf wr g cap (putW W (amS G O n))) := Lib.hid (by
        have := HBF.out
        rwa [List.take_of_length_le (by simp)] at this)
      have hlen : (putW W (amS G O n)).length = n := by rw [putW_length, HN.out]
      have HLE := Lib.hid hlen
      rw [HM.out]
      clear hbuf hv hg5 hb hlt HBF hlen
      go_wp2_with fail
      go_ret2
      exact ⟨.slice (some ⟨g, 0, none⟩) n cap, rfl, ⟨_, _, by rw [HLE.out], HBE.out.row⟩, HB5.out⟩
end Go.Proofs.YtgchfijeiggimaaDoor
