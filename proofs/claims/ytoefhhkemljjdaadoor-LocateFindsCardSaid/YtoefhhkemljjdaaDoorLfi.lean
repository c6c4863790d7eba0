/- The walk of LocateFinds. -/
import Derived.Test.YtoefhhkemljjdaaDoorLb
import Derived.Test.YtoefhhkemljjdaaDoorRs
namespace Go.Proofs.YtoefhhkemljjdaaDoor
open Go.RowKit
set_option linter.unusedVariables false
set_option linter.unusedSimpArgs false
/-- what each operation of the region has as its result -/
def LfiG (M Q : List UInt8) (L F : Nat) (i : Nat) (x : Value) (v : World) : Prop :=
  match i with
  | 0 => (x) = .nilIface
  | 3 => (x) = .pointer (some ⟨F, 0, none⟩)
  | 4 | 5 => (x) = .int .i64 (L : Int)
  | 9 => (x) = .pointer (some ⟨F, 1, none⟩)
  | 10 | 12 => RowV (M) (x) v
  | 11 | 13 => (x) = .string ⟨(M).toArray⟩
  | 17 => (x) = .pointer (some ⟨F, 2, none⟩)
  | 18 | 21 => RowV (tr Q) (x) v
  | 19 | 22 => (x) = .string ⟨(tr Q).toArray⟩
  | 20 => RowV (Q) (x) v
  | _ => (x) = .bool true
theorem LfiG.later {M Q : List UInt8} {L F : Nat} (i : Nat) (x : Value) (v v' : World) (h : LfiG M Q L F i x v) (hb : Below v.heap.size v v') : LfiG M Q L F i x v' := by
  unfold LfiG at *
  split at h <;> first | exact h | exact h.later hb
theorem fnd_only {R C x : List UInt8} {L : Nat} (h : RF R C L) (hx : Gf.Sol (Gf.regM (co R) L) (R.length - L) L (co x)) (hl : x.length = L) (h2 : 2 * L ≤ R.length) : tr ([1] ++ x) = tr C := tr_congr fun j => by
  have hc : co ([1] ++ x) j = Gf.regC (co x) j := by
    unfold Gf.regC
    cases j with
    | zero => rfl
    | succ j => rw [if_neg (by omega), Nat.add_sub_cancel]; simp [co]
  rw [hc]
  have h1 := (Gf.sol_run (co R) R.length L (co x)).1 hx
  by_cases hj : j ≤ L
  · exact Gf.Run.only h.least h1 h.run h2 j hj
  · have := h.len
    rw [co_ge (show C.length ≤ j by omega)]
    unfold Gf.regC
    rw [if_neg (by omega), co_ge (by omega)]
theorem low_if (P : List UInt8) : (P.take (lowN 32 P.length)) = if 32 < P.length then P.take 32 else P := by
  unfold lowN
  by_cases h : 32 < P.length
  · rw [if_neg (by decide), if_neg (by omega), if_pos h]; rfl
  · rw [if_neg h]
    by_cases h2 : P.length < 32
    · rw [if_neg (by decide), if_pos (by omega), List.take_length]
    · rw [if_neg (by decide), if_neg (by omega), List.take_of_length_le (by show P.length ≤ 32; omega)]
set_option maxRecDepth 100000 in
set_option maxHeartbeats 4000000 in
theorem lfi_long (n : Int) (z : List Int) (CS : Array Value) (c : Nat) (o : Option Addr) (w : World) (hm : (Tryd.prog.info? 23).map (·.size) = some CS.size) (hl : 40 < z.length) (hz : z.length ≤ 9223372036854775807) :
    Calls Tryd.prog 5 #[.agg CS, .int .i64 n, .slice o z.length c] w fun e w' => e = .returned (.bool true) ∧ Below w.heap.size w w' := by
  have hd : decide ((40 : Int) < (z.length : Int)) = true := decide_eq_true (by omega)
  have hb0 := Lib.hid ((Below.refl w.heap.size w).alloc (Nat.le_refl _) (.cells CS 23))
  clear hl
  go_enter Tryd.func5, Tryd.ntmps5
  go_wp2_with fail
  refine (alive4_any _).mono ?_; rintro e w1 ⟨rfl, hb⟩
  have HB := Lib.hid (Kit.step hb0.out hb)
  clear hb
  go_wp2_with fail
  go_ret
  exact ⟨rfl, HB.out⟩
set_option maxRecDepth 100000 in
set_option maxHeartbeats 4000000 in
theorem lfi_bad (n : Int) (z : List Int) (s : List UInt8) (c : Nat) (o : Option Addr) (w : World) (A : Nat → Addr) (a : Nat) (hs : s.length = 32) (hS : RowIs w o (intsV z) c) (hE : Er.Errs w A) (hl : z.length ≤ 40) (hB : ErBad n z A a) (CS : Array Value) (hCS : (bytesV s).toArray = CS) :
    Calls Tryd.prog 5 #[.agg CS, .int .i64 n, .slice o z.length c] w fun e w' => e = .returned (.bool true) ∧ Below w.heap.size w w' := by
  have hd : decide ((40 : Int) < (z.length : Int)) = false := decide_eq_false (by omega)
  have HL := Lib.hid hl
  have HB0 := Lib.hid ((Below.refl w.heap.size w).alloc (Nat.le_refl _) (.cells CS 23))
  have HG0 := Lib.hid (World.alloc_heap_new w (.cells CS 23))
  have HS := Lib.hid hS
  have HE := Lib.hid hE
  have HSL := Lib.hid hs
  have HCS := Lib.hid hCS
  have HSZ := Lib.hid (arr_size hs)
  rw [hCS] at HSZ
  have h1 := hS.le
  have h2 := hS.cap
  simp only [intsV_length] at h1
  unfold maxLen at h2
  obtain ⟨m, hm⟩ : ∃ m : Nat, a + 1 = m := ⟨_, rfl⟩
  have hrf := hB.ref
  rw [hm] at hrf
  have HRF := Lib.hid hrf
  have hfi := fun v hv hE => hB.find s v o c hs hv hE
  rw [hCS] at hfi
  have HFI := Lib.hid hfi
  have HNU : Hid (∀ v, Er.Errs v A → Calls Tryd.prog 12 #[.iface 122 (.pointer (some (A a)))] v fun e w' => e = .returned (.int .i64 (m : Int)) ∧ Below v.heap.size v w') := Lib.hid fun v hv => by
    have := Er.num_of A a hB.lt v hv
    rwa [hm] at this
  have hm0 : ((m : Int) == 0) = false := beq_false_of_ne (by omega)
  have hm1 : ((m : Int) != 0) = true := by rw [bne_iff_ne]; omega
  have hm2 : ¬ ((m : Int) = 0) := by omega
  clear hS hE hB hl hm hrf hfi hs hCS
  go_enter Tryd.func5, Tryd.ntmps5
  go_wp2_with fail
  refine (alive4_any _).mono ?_; rintro e w1 ⟨rfl, hb⟩
  have HB1 := Lib.hid (Kit.step HB0.out hb)
  have HG1 : Hid (w1.heap[w.heap.size]? = some (.cells CS 23 (0, 0))) := Lib.hid (by rw [hb.block w.heap.size (by simp)]; exact HG0.out)
  clear hb HG0
  go_wp2_with (refine wpList_load_row rfl 23 (.tmp 3) rfl w.heap.size rfl 23 CS (0, 0) _ HG1.out arr_under rfl HSZ.out ?_)
  refine (HFI.out w1 (HS.out.later HB1.out) (HE.out.later HB1.out)).mono ?_; rintro e w2 ⟨rfl, hb⟩
  have HB2 := Lib.hid (Kit.step HB1.out hb)
  obtain ⟨w3, hw3⟩ : ∃ w3, w2.alloc (.cells #[.int .i64 0, .slice none 0 0, .slice none 0 0] 46) = w3 := ⟨_, rfl⟩
  have HB3 : Hid (Below w.heap.size w w3) := Lib.hid (by rw [← hw3]; exact HB2.out.alloc HB2.out.size _)
  have hf3 : w3.heap[w2.heap.size]? = some (.cells #[.int .i64 0, .slice none 0 0, .slice none 0 0] 46 (0, 0)) := by rw [← hw3]; exact World.alloc_heap_new _ _
  have HF3 := Lib.hid hf3
  have HW3 := Lib.hid hw3
  unfold fe_v fz
  clear hb hf3 hw3 HG1
  go_wp2_with fail
  rw [HW3.out]
  refine (HRF.out w3 o c (HS.out.later HB3.out)).mono ?_; rintro e w4 ⟨rfl, hb⟩
  have HB4 := Lib.hid (Kit.step HB3.out hb)
  have HF4 : Hid (w4.heap[w2.heap.size]? = some (.cells #[.int .i64 0, .slice none 0 0, .slice none 0 0] 46 (0, 0))) := Lib.hid (by rw [hb.block _ (Array.getElem?_eq_some_iff.1 HF3.out).1]; exact HF3.out)
  clear hb HF3
  go_wp2_with fail
  refine (HNU.out w4 (HE.out.later HB4.out)).mono ?_; rintro e w5 ⟨rfl, hb⟩
  have HB5 := Lib.hid (Kit.step HB4.out hb)
  have hc1 : w5.cell? ⟨w2.heap.size, 1, none⟩ = some (.slice none 0 0) := by
    have : w5.heap[w2.heap.size]? = some (.cells #[.int .i64 0, .slice none 0 0, .slice none 0 0] 46 (0, 0)) := by rw [hb.block _ (Array.getElem?_eq_some_iff.1 HF4.out).1]; exact HF4.out
    rw [cell_of_row _ _ 1 _ _ _ this]; rfl
  clear hb HF4
  go_wp2_with fail
  go_ret
  exact ⟨rfl, HB5.out⟩
set_option maxRecDepth 100000 in
set_option maxHeartbeats 4000000 in
theorem lfi_good (m : Nat) (z : List Int) (s : List UInt8) (c : Nat) (o : Option Addr) (w : World) (A : Nat → Addr) (hs : s.length = 32) (hS : RowIs w o (intsV z) c) (hE : Er.Errs w A) (hl : z.length ≤ 40) (hB : ErGood m z) (CS : Array Value) (hCS : (bytesV s).toArray = CS) :
    Calls Tryd.prog 5 #[.agg CS, .int .i64 m, .slice o z.length c] w fun e w' => e = .returned (.bool true) ∧ Below w.heap.size w w' := by
  have hd : decide ((40 : Int) < (z.length : Int)) = false := decide_eq_false (by omega)
  have HL := Lib.hid hl
  have HB0 := Lib.hid ((Below.refl w.heap.size w).alloc (Nat.le_refl _) (.cells CS 23))
  have HG0 := Lib.hid (World.alloc_heap_new w (.cells CS 23))
  have HS := Lib.hid hS
  have HE := Lib.hid hE
  have HSL := Lib.hid hs
  have HCS := Lib.hid hCS
  have HSZ := Lib.hid (arr_size hs)
  rw [hCS] at HSZ
  have h1 := hS.le
  have h2 := hS.cap
  simp only [intsV_length] at h1
  unfold maxLen at h2
  have HB := Lib.hid hB
  have HLEN := Lib.hid (loc_len m z)
  have HTR := Lib.hid (loc_tr m z)
  have HRL0 := Lib.hid (for_len s m z)
  have hfi := fun v hv hE => cfi_any s z m c o v A hs hv hB.lo hB.hi (by omega) (fun _ => hE) (fun _ => hE) CS hCS
  have HFI := Lib.hid hfi
  have HRE : Hid (∀ v, RowIs v o (intsV z) c → _) := Lib.hid (fun v hv => hB.ref v o c hv)
  have HNU : Hid (∀ v, Er.Errs v A → Calls Tryd.prog 12 #[.iface 122 (.pointer (some (A 16)))] v fun e w' => e = .returned (.int .i64 17) ∧ Below v.heap.size v w') := Lib.hid fun v hv => Er.num_of A 16 (by omega) v hv
  clear hS hE hB hl hfi hs hCS
  go_enter Tryd.func5, Tryd.ntmps5
  go_wp2_with fail
  refine (alive4_any _).mono ?_; rintro e w1 ⟨rfl, hb⟩
  have HB1 := Lib.hid (Kit.step HB0.out hb)
  have HG1 : Hid (w1.heap[w.heap.size]? = some (.cells CS 23 (0, 0))) := Lib.hid (by rw [hb.block w.heap.size (by simp)]; exact HG0.out)
  clear hb HG0
  go_wp2_with (refine wpList_load_row rfl 23 (.tmp 3) rfl w.heap.size rfl 23 CS (0, 0) _ HG1.out arr_under rfl HSZ.out ?_)
  refine (HFI.out w1 (HS.out.later HB1.out) (HE.out.later HB1.out)).mono ?_; rintro e w2 ⟨hb, hto⟩
  have HB2 := Lib.hid (Kit.step HB1.out hb)
  have HG2 : Hid (w2.heap[w.heap.size]? = some (.cells CS 23 (0, 0))) := Lib.hid (by rw [hb.block w.heap.size (Array.getElem?_eq_some_iff.1 HG1.out).1]; exact HG1.out)
  clear hb HFI
  rcases hto with ⟨⟨k, hk, h⟩, _⟩ | ⟨_, ⟨⟨i, j, hj, hi, h⟩, _⟩ | ⟨_, ⟨h, _⟩ | ⟨h32, C, L, hrf, hto⟩⟩⟩
  · have := HB.out.ok.1 k hk; omega
  · exact absurd h (HB.out.ok.2.1 i j hj hi)
  · have := HB.out.ok.2.2; omega
  obtain ⟨M, hM⟩ : ∃ M, ertL C m z = M := ⟨_, rfl⟩
  have hevl : evaL s C m z = tr ((tr (mulL (tr s) M)).take (lowN 32 (tr (mulL (tr s) M)).length)) := by unfold evaL; rw [hM]
  have hmM : M = tr (mulL (tr C) (Gf.locL (xsL m z))) := by rw [← hM]; rfl
  rw [hM, hevl] at hto
  clear hM hevl
  obtain ⟨G, hG⟩ : ∃ G, Gf.locL (xsL m z) = G := ⟨_, rfl⟩
  rw [hG] at HLEN HTR HRL0 hrf hmM
  simp only [hG] at HRE
  obtain ⟨R, hR⟩ : ∃ R, forL s G = R := ⟨_, rfl⟩
  rw [hR] at HRL0 hrf
  have HR := Lib.hid hR
  have HRL := HRL0
  have HRF := Lib.hid hrf
  have HMM := Lib.hid hmM
  have hL32 : L ≤ 32 := by have := hrf.le; have := HRL.out; omega
  have h2Lw : IntKind.i64.wrap (2 * (L : Int)) = 2 * (L : Int) := by rw [IntKind.wrap_i64]; omega
  have hL1w : IntKind.i64.wrap ((L : Int) + 1) = (L : Int) + 1 := by rw [IntKind.wrap_i64]; omega
  have HLE32 := Lib.hid hL32
  have hcl := hrf.len
  have htcl := tr_le C
  have HCL : Hid ((tr C).length ≤ L + 1) := Lib.hid (by omega)
  clear hG hR hrf hmM hcl htcl
  rcases hto with ⟨hlost, rfl⟩ | ⟨hn2, hn3, x1, x2, rfl, hx1, hx2⟩
  · unfold fe_v fz
    obtain ⟨w3, hw3⟩ : ∃ w3, w2.alloc (.cells #[.int .i64 0, .slice none 0 0, .slice none 0 0] 46) = w3 := ⟨_, rfl⟩
    have HB3 : Hid (Below w.heap.size w w3) := Lib.hid (by rw [← hw3]; exact HB2.out.alloc HB2.out.size _)
    have hb23 : Below w2.heap.size w2 w3 := by rw [← hw3]; exact (Below.refl _ _).alloc (Nat.le_refl _) _
    have hf3 : w3.heap[w2.heap.size]? = some (.cells #[.int .i64 0, .slice none 0 0, .slice none 0 0] 46 (0, 0)) := by rw [← hw3]; exact World.alloc_heap_new _ _
    have HG3 : Hid (w3.heap[w.heap.size]? = some (.cells CS 23 (0, 0))) := Lib.hid (by rw [hb23.block w.heap.size (Array.getElem?_eq_some_iff.1 HG2.out).1]; exact HG2.out)
    obtain ⟨F, hF⟩ : ∃ F, w2.heap.size = F := ⟨_, rfl⟩
    rw [hF] at hf3
    have HF3 := Lib.hid hf3
    have HW3 := Lib.hid hw3
    have HFE := Lib.hid hF
    clear hf3 hw3 hb23 hF
    go_wp2_with fail
    rw [HW3.out, HFE.out]
    refine (HRE.out w3 (HS.out.later HB3.out)).mono ?_; rintro e w4 ⟨x2, rfl, hx2, hb⟩
    obtain ⟨o2, c2, rfl, hx2⟩ := hx2
    have HB4 := Lib.hid (Kit.step HB3.out hb)
    have HF4 : Hid (w4.heap[F]? = some (.cells #[.int .i64 0, .slice none 0 0, .slice none 0 0] 46 (0, 0))) := Lib.hid (by rw [hb.block _ (Array.getElem?_eq_some_iff.1 HF3.out).1]; exact HF3.out)
    have HG4 : Hid (w4.heap[w.heap.size]? = some (.cells CS 23 (0, 0))) := Lib.hid (by rw [hb.block w.heap.size (Array.getElem?_eq_some_iff.1 HG3.out).1]; exact HG3.out)
    have HY4 := Lib.hid hx2
    have HFO := Lib.hid (rfor_any s G o2 c2 w4 HSL.out hx2 (by have := HLEN.out; have := HL.out; omega) (by rw [HTR.out]; have := HLEN.out; omega) (by rw [HTR.out]; have := HLEN.out; have := HB.out.ok.2.2; omega) CS HCS.out)
    rw [HR.out] at HFO
    clear hb hx2
    go_wp2_with (refine wpList_load_row rfl 23 (.tmp 3) rfl w.heap.size rfl 23 CS (0, 0) _ HG4.out arr_under rfl HSZ.out ?_)
    refine HFO.out.mono ?_; rintro e w5 ⟨x5, rfl, hx5, hb⟩
    obtain ⟨o5, c5, rfl, hx5⟩ := hx5
    have HB5 := Lib.hid (Kit.step HB4.out hb)
    have HF5 : Hid (w5.heap[F]? = some (.cells #[.int .i64 0, .slice none 0 0, .slice none 0 0] 46 (0, 0))) := Lib.hid (by rw [hb.block _ (Array.getElem?_eq_some_iff.1 HF4.out).1]; exact HF4.out)
    have HG5 : Hid (w5.heap[w.heap.size]? = some (.cells CS 23 (0, 0))) := Lib.hid (by rw [hb.block w.heap.size (Array.getElem?_eq_some_iff.1 HG4.out).1]; exact HG4.out)
    have HY5 := Lib.hid (HY4.out.later hb)
    have HZ5 := Lib.hid hx5
    have HSH := Lib.hid (shortest_any R L (co C) o5 c5 w5 hx5 HRF.out.run HRF.out.least HRF.out.le (by have := HRL.out; omega))
    clear hb hx5 HFO
    go_wp2_with fail
    refine HSH.out.mono ?_; rintro e w6 ⟨rfl, hb⟩
    have HB6 := Lib.hid (Kit.step HB5.out hb)
    have HF6 : Hid (w6.heap[F]? = some (.cells #[.int .i64 0, .slice none 0 0, .slice none 0 0] 46 (0, 0))) := Lib.hid (by rw [hb.block _ (Array.getElem?_eq_some_iff.1 HF5.out).1]; exact HF5.out)
    have HG6 : Hid (w6.heap[w.heap.size]? = some (.cells CS 23 (0, 0))) := Lib.hid (by rw [hb.block w.heap.size (Array.getElem?_eq_some_iff.1 HG5.out).1]; exact HG5.out)
    have HY6 := Lib.hid (HY5.out.later hb)
    have HZ6 := Lib.hid (HZ5.out.later hb)
    clear hb HSH
    by_cases h2L1 : R.length < 2 * L
    · have hd2 : decide ((R.length : Int) < 2 * (L : Int)) = true := decide_eq_true (by omega)
      clear h2L1
      go_wp2_with fail
      refine (HNU.out w6 (HE.out.later HB6.out)).mono ?_; rintro e w7 ⟨rfl, hb⟩
      have HB7 := Lib.hid (Kit.step HB6.out hb)
      have hc1 : w7.cell? ⟨F, 1, none⟩ = some (.slice none 0 0) := by
        have : w7.heap[F]? = some (.cells #[.int .i64 0, .slice none 0 0, .slice none 0 0] 46 (0, 0)) := by rw [hb.block _ (Array.getElem?_eq_some_iff.1 HF6.out).1]; exact HF6.out
        rw [cell_of_row _ _ 1 _ _ _ this]; rfl
      clear hb
      go_wp2_with fail
      go_ret
      exact ⟨rfl, HB7.out⟩
    · have HN2 : Hid (2 * L ≤ R.length) := Lib.hid (by omega)
      have HN3 : Hid ((tr C).length ≤ L) := Lib.hid (by have := HRL.out; omega)
      have hd2 : decide ((R.length : Int) < 2 * (L : Int)) = false := decide_eq_false (by omega)
      have HRG := Lib.hid (register_any R L o5 c5 w6 HZ6.out HRF.out.le (by have := HRL.out; omega))
      clear h2L1
      go_wp2_with fail
      refine HRG.out.mono ?_; rintro e w7 ⟨hb, ⟨x, v, hx1, hxs, rfl, hxv⟩ | ⟨hno, _⟩⟩
      rotate_left
      · exact absurd (Gf.run_sol HRF.out.run) (hno _)
      obtain ⟨o7, c7, rfl, hx7⟩ := hxv
      have HB7 := Lib.hid (Kit.step HB6.out hb)
      have HF7 : Hid (w7.heap[F]? = some (.cells #[.int .i64 0, .slice none 0 0, .slice none 0 0] 46 (0, 0))) := Lib.hid (by rw [hb.block _ (Array.getElem?_eq_some_iff.1 HF6.out).1]; exact HF6.out)
      have HG7 : Hid (w7.heap[w.heap.size]? = some (.cells CS 23 (0, 0))) := Lib.hid (by rw [hb.block w.heap.size (Array.getElem?_eq_some_iff.1 HG6.out).1]; exact HG6.out)
      have HY7 := Lib.hid (HY6.out.later hb)
      have HTC : Hid (tr (1 :: x) = tr C) := Lib.hid (fnd_only HRF.out hxs hx1 HN2.out)
      have HXL := Lib.hid hx1
      obtain ⟨w8, hw8⟩ : ∃ w8, w7.alloc (.cells (bytesV [1]).toArray 5) = w8 := ⟨_, rfl⟩
      have hb8 : Below w7.heap.size w7 w8 := by rw [← hw8]; exact (Below.refl _ _).alloc (Nat.le_refl _) _
      have hown : w8.ownsRow w7.heap.size 5 1 (.slice (some ⟨w7.heap.size, 0, none⟩) 1 1) 1 (bytesV [1]) := by rw [← hw8]; exact World.ownsRow_lit w7 (bytesV [1]).toArray 1 (Nat.le_refl _) (by unfold maxLen; simp) rfl
      have HOWN := Lib.hid hown
      have HX8R := Lib.hid (hx7.later hb8)
      have HB8 := Lib.hid hb8
      have HW8 := Lib.hid hw8
      rw [hx1]
      clear hb hx7 hx1 hxs hw8 hb8 hown HRG
      go_wp2_with (first | rw [show w7.alloc (.cells #[.int .u8 1] 5) = w8 from HW8.out] | (at_builtin; refine append_row rfl (.tmp 73) (.tmp 74) rfl w7.heap.size _ 1 [1] rfl HOWN.out o7 L c7 x rfl HXL.out.symm HX8R.out (by have := HLE32.out; omega) HB8.out.size ?_))
      intro v' w9 hv hg
      have hb9 : Below w7.heap.size w7 w9 := own_below (n := 0) HB8.out HOWN.out hg
      obtain ⟨o9b, c9b, rfl, hr9⟩ := owns_rv hv (by simp [HXL.out]; omega)
      have HBB := Lib.hid (Kit.step HB7.out hb9)
      have HF9 : Hid (w9.heap[F]? = some (.cells #[.int .i64 0, .slice none 0 0, .slice none 0 0] 46 (0, 0))) := Lib.hid (by rw [hb9.block _ (Array.getElem?_eq_some_iff.1 HF7.out).1]; exact HF7.out)
      have htr := rtrim_any (1 :: x) o9b c9b w9 hr9 (by simp [HXL.out]; have := HLE32.out; omega)
      have hlen1 : ((1 : UInt8) :: x).length = 1 + L := by rw [List.length_cons, HXL.out]; omega
      rw [HTC.out, hlen1] at htr
      rw [hlen1]
      clear hlen1
      have HTRM := Lib.hid htr
      clear hv hg hb9 hr9 htr
      go_wp2_with fail
      refine HTRM.out.mono ?_; rintro e w10 ⟨xx, rfl, ⟨o10, c10, rfl, _⟩, hb⟩
      have HB10 := Lib.hid (Kit.step HBB.out hb)
      have HF10 : Hid (w10.heap[F]? = some (.cells #[.int .i64 0, .slice none 0 0, .slice none 0 0] 46 (0, 0))) := Lib.hid (by rw [hb.block _ (Array.getElem?_eq_some_iff.1 HF9.out).1]; exact HF9.out)
      obtain ⟨t, ht⟩ : ∃ t, (tr C).length = t := ⟨_, rfl⟩
      rw [ht]
      have hne : ¬ ((t : Int) = (L : Int) + 1) := by have := HN3.out; omega
      have hnb : ((t : Int) == (L : Int) + 1) = false := beq_false_of_ne hne
      have hnn : ((t : Int) != (L : Int) + 1) = true := by rw [bne_iff_ne]; exact hne
      clear hb ht
      go_wp2_with fail
      refine (HNU.out w10 (HE.out.later HB10.out)).mono ?_; rintro e w11 ⟨rfl, hb⟩
      have HB11 := Lib.hid (Kit.step HB10.out hb)
      have hc1 : w11.cell? ⟨F, 1, none⟩ = some (.slice none 0 0) := by
        have : w11.heap[F]? = some (.cells #[.int .i64 0, .slice none 0 0, .slice none 0 0] 46 (0, 0)) := by rw [hb.block _ (Array.getElem?_eq_some_iff.1 HF10.out).1]; exact HF10.out
        rw [cell_of_row _ _ 1 _ _ _ this]; rfl
      clear hb
      go_wp2_with fail
      go_ret
      exact ⟨rfl, HB11.out⟩
  · obtain ⟨o6, c6, rfl, hx1⟩ := hx1
    obtain ⟨P, hP⟩ : ∃ P, tr (mulL (tr s) M) = P := ⟨_, rfl⟩
    rw [hP, low_if] at hx2
    have hPs : tr (mulL s M) = P := by rw [← hP]; exact tr_congr fun i => mulL_congr (fun j => (co_tr s j).symm) (fun _ => rfl) i
    have HPS := Lib.hid hPs
    have HML : Hid (M.length ≤ 200) := Lib.hid (by
      rw [HMM.out]
      have h5 := tr_le (mulL (tr C) G)
      have h6 : (mulL (tr C) G).length = (tr C).length + G.length := by simp [mulL]
      have := HLEN.out
      have := HCL.out
      omega)
    have HPL : Hid (P.length ≤ 300) := Lib.hid (by
      rw [← hPs]
      have h5 := tr_le (mulL s M)
      have h6 : (mulL s M).length = s.length + M.length := by simp [mulL]
      have := HSL.out
      have := HML.out
      omega)
    obtain ⟨Q, hQ⟩ : ∃ Q, (if 32 < P.length then P.take 32 else P) = Q := ⟨_, rfl⟩
    rw [hQ] at hx2
    have HQ := Lib.hid hQ
    obtain ⟨V, hV⟩ : ∃ V, tr Q = V := ⟨_, rfl⟩
    rw [hV] at hx2
    have HVQ := Lib.hid hV
    obtain ⟨o9, c9, rfl, hx2⟩ := hx2
    have HX2 := Lib.hid hx1
    have HV2 := Lib.hid hx2
    have HN2 : Hid (2 * L ≤ R.length) := Lib.hid (by have := HRL.out; omega)
    have HN3 : Hid ((tr C).length = L + 1) := Lib.hid (by have := HCL.out; omega)
    have h2L1 : ¬ R.length < 2 * L := by have := HN2.out; omega
    clear hx1 hx2 hP hPs hQ hV hn2 hn3
    obtain ⟨w3, hw3⟩ : ∃ w3, w2.alloc (.cells #[.int .i64 (L : Int), .slice o6 M.length c6, .slice o9 V.length c9] 46) = w3 := ⟨_, rfl⟩
    have HB3 : Hid (Below w.heap.size w w3) := Lib.hid (by rw [← hw3]; exact HB2.out.alloc HB2.out.size _)
    have hb23 : Below w2.heap.size w2 w3 := by rw [← hw3]; exact (Below.refl _ _).alloc (Nat.le_refl _) _
    have hf3 : w3.heap[w2.heap.size]? = some (.cells #[.int .i64 (L : Int), .slice o6 M.length c6, .slice o9 V.length c9] 46 (0, 0)) := by rw [← hw3]; exact World.alloc_heap_new _ _
    have HG3 : Hid (w3.heap[w.heap.size]? = some (.cells CS 23 (0, 0))) := Lib.hid (by rw [hb23.block w.heap.size (Array.getElem?_eq_some_iff.1 HG2.out).1]; exact HG2.out)
    have HX3 := Lib.hid (HX2.out.later hb23)
    have HV3 := Lib.hid (HV2.out.later hb23)
    obtain ⟨F, hF⟩ : ∃ F, w2.heap.size = F := ⟨_, rfl⟩
    rw [hF] at hf3
    have HF3 := Lib.hid hf3
    have HW3 := Lib.hid hw3
    have HFE := Lib.hid hF
    clear hf3 hw3 hb23 hF
    go_wp2_with fail
    rw [HW3.out, HFE.out]
    refine (HRE.out w3 (HS.out.later HB3.out)).mono ?_; rintro e w4 ⟨x2, rfl, hx2, hb⟩
    obtain ⟨o2, c2, rfl, hx2⟩ := hx2
    have HB4 := Lib.hid (Kit.step HB3.out hb)
    have HF4 : Hid (w4.heap[F]? = some (.cells #[.int .i64 (L : Int), .slice o6 M.length c6, .slice o9 V.length c9] 46 (0, 0))) := Lib.hid (by rw [hb.block _ (Array.getElem?_eq_some_iff.1 HF3.out).1]; exact HF3.out)
    have HG4 : Hid (w4.heap[w.heap.size]? = some (.cells CS 23 (0, 0))) := Lib.hid (by rw [hb.block w.heap.size (Array.getElem?_eq_some_iff.1 HG3.out).1]; exact HG3.out)
    have HX4 := Lib.hid (HX3.out.later hb)
    have HV4 := Lib.hid (HV3.out.later hb)
    have HY4 := Lib.hid hx2
    have HFO := Lib.hid (rfor_any s G o2 c2 w4 HSL.out hx2 (by have := HLEN.out; have := HL.out; omega) (by rw [HTR.out]; have := HLEN.out; omega) (by rw [HTR.out]; have := HLEN.out; have := HB.out.ok.2.2; omega) CS HCS.out)
    rw [HR.out] at HFO
    clear hb hx2
    go_wp2_with (refine wpList_load_row rfl 23 (.tmp 3) rfl w.heap.size rfl 23 CS (0, 0) _ HG4.out arr_under rfl HSZ.out ?_)
    refine HFO.out.mono ?_; rintro e w5 ⟨x5, rfl, hx5, hb⟩
    obtain ⟨o5, c5, rfl, hx5⟩ := hx5
    have HB5 := Lib.hid (Kit.step HB4.out hb)
    have HF5 : Hid (w5.heap[F]? = some (.cells #[.int .i64 (L : Int), .slice o6 M.length c6, .slice o9 V.length c9] 46 (0, 0))) := Lib.hid (by rw [hb.block _ (Array.getElem?_eq_some_iff.1 HF4.out).1]; exact HF4.out)
    have HG5 : Hid (w5.heap[w.heap.size]? = some (.cells CS 23 (0, 0))) := Lib.hid (by rw [hb.block w.heap.size (Array.getElem?_eq_some_iff.1 HG4.out).1]; exact HG4.out)
    have HX5 := Lib.hid (HX4.out.later hb)
    have HV5 := Lib.hid (HV4.out.later hb)
    have HY5 := Lib.hid (HY4.out.later hb)
    have HZ5 := Lib.hid hx5
    have HSH := Lib.hid (shortest_any R L (co C) o5 c5 w5 hx5 HRF.out.run HRF.out.least HRF.out.le (by have := HRL.out; omega))
    clear hb hx5 HFO
    go_wp2_with fail
    refine HSH.out.mono ?_; rintro e w6 ⟨rfl, hb⟩
    have HB6 := Lib.hid (Kit.step HB5.out hb)
    have HF6 : Hid (w6.heap[F]? = some (.cells #[.int .i64 (L : Int), .slice o6 M.length c6, .slice o9 V.length c9] 46 (0, 0))) := Lib.hid (by rw [hb.block _ (Array.getElem?_eq_some_iff.1 HF5.out).1]; exact HF5.out)
    have HG6 : Hid (w6.heap[w.heap.size]? = some (.cells CS 23 (0, 0))) := Lib.hid (by rw [hb.block w.heap.size (Array.getElem?_eq_some_iff.1 HG5.out).1]; exact HG5.out)
    have HX6 := Lib.hid (HX5.out.later hb)
    have HV6 := Lib.hid (HV5.out.later hb)
    have HY6 := Lib.hid (HY5.out.later hb)
    have HZ6 := Lib.hid (HZ5.out.later hb)
    clear hb HSH
    have hd2 : decide ((R.length : Int) < 2 * (L : Int)) = false := decide_eq_false (by omega)
    have HRG := Lib.hid (register_any R L o5 c5 w6 HZ6.out HRF.out.le (by have := HRL.out; omega))
    clear h2L1
    go_wp2_with fail
    refine HRG.out.mono ?_; rintro e w7 ⟨hb, ⟨x, v, hx1, hxs, rfl, hxv⟩ | ⟨hno, _⟩⟩
    rotate_left
    · exact absurd (Gf.run_sol HRF.out.run) (hno _)
    obtain ⟨o7, c7, rfl, hx7⟩ := hxv
    have HB7 := Lib.hid (Kit.step HB6.out hb)
    have HF7 : Hid (w7.heap[F]? = some (.cells #[.int .i64 (L : Int), .slice o6 M.length c6, .slice o9 V.length c9] 46 (0, 0))) := Lib.hid (by rw [hb.block _ (Array.getElem?_eq_some_iff.1 HF6.out).1]; exact HF6.out)
    have HG7 : Hid (w7.heap[w.heap.size]? = some (.cells CS 23 (0, 0))) := Lib.hid (by rw [hb.block w.heap.size (Array.getElem?_eq_some_iff.1 HG6.out).1]; exact HG6.out)
    have HX7 := Lib.hid (HX6.out.later hb)
    have HV7 := Lib.hid (HV6.out.later hb)
    have HY7 := Lib.hid (HY6.out.later hb)
    have HTC : Hid (tr (1 :: x) = tr C) := Lib.hid (fnd_only HRF.out hxs hx1 HN2.out)
    have HXL := Lib.hid hx1
    obtain ⟨w8, hw8⟩ : ∃ w8, w7.alloc (.cells (bytesV [1]).toArray 5) = w8 := ⟨_, rfl⟩
    have hb8 : Below w7.heap.size w7 w8 := by rw [← hw8]; exact (Below.refl _ _).alloc (Nat.le_refl _) _
    have hown : w8.ownsRow w7.heap.size 5 1 (.slice (some ⟨w7.heap.size, 0, none⟩) 1 1) 1 (bytesV [1]) := by rw [← hw8]; exact World.ownsRow_lit w7 (bytesV [1]).toArray 1 (Nat.le_refl _) (by unfold maxLen; simp) rfl
    have HOWN := Lib.hid hown
    have HX8R := Lib.hid (hx7.later hb8)
    have HB8 := Lib.hid hb8
    have HW8 := Lib.hid hw8
    rw [hx1]
    clear hb hx7 hx1 hxs hw8 hb8 hown HRG
    go_wp2_with (first | rw [show w7.alloc (.cells #[.int .u8 1] 5) = w8 from HW8.out] | (at_builtin; refine append_row rfl (.tmp 73) (.tmp 74) rfl w7.heap.size _ 1 [1] rfl HOWN.out o7 L c7 x rfl HXL.out.symm HX8R.out (by have := HLE32.out; omega) HB8.out.size ?_))
    intro v' w9 hv hg
    have hb9 : Below w7.heap.size w7 w9 := own_below (n := 0) HB8.out HOWN.out hg
    obtain ⟨o9b, c9b, rfl, hr9⟩ := owns_rv hv (by simp [HXL.out]; omega)
    have HBB := Lib.hid (Kit.step HB7.out hb9)
    have hCELLS := HF7.out
    have HF9 : Hid (w9.heap[F]? = some (.cells #[.int .i64 (L : Int), .slice o6 M.length c6, .slice o9 V.length c9] 46 (0, 0))) := Lib.hid (by rw [hb9.block _ (Array.getElem?_eq_some_iff.1 HF7.out).1]; exact HF7.out)
    have HG9 : Hid (w9.heap[w.heap.size]? = some (.cells CS 23 (0, 0))) := Lib.hid (by rw [hb9.block _ (Array.getElem?_eq_some_iff.1 HG7.out).1]; exact HG7.out)
    have HX9 := Lib.hid (HX7.out.later hb9)
    have HV9 := Lib.hid (HV7.out.later hb9)
    have HY9 := Lib.hid (HY7.out.later hb9)
    have htr := rtrim_any (1 :: x) o9b c9b w9 hr9 (by simp [HXL.out]; have := HLE32.out; omega)
    have hlen1 : ((1 : UInt8) :: x).length = 1 + L := by rw [List.length_cons, HXL.out]; omega
    rw [HTC.out, hlen1] at htr
    rw [hlen1]
    clear hlen1
    have HTRM := Lib.hid htr
    clear hv hg hb9 hr9 htr hCELLS
    go_wp2_with fail
    refine HTRM.out.mono ?_; rintro e w10 ⟨xx, rfl, ⟨o10, c10, rfl, hr10⟩, hb⟩
    have HB10 := Lib.hid (Kit.step HBB.out hb)
    have HF10 : Hid (w10.heap[F]? = some (.cells #[.int .i64 (L : Int), .slice o6 M.length c6, .slice o9 V.length c9] 46 (0, 0))) := Lib.hid (by rw [hb.block _ (Array.getElem?_eq_some_iff.1 HF9.out).1]; exact HF9.out)
    have HG10 : Hid (w10.heap[w.heap.size]? = some (.cells CS 23 (0, 0))) := Lib.hid (by rw [hb.block _ (Array.getElem?_eq_some_iff.1 HG9.out).1]; exact HG9.out)
    have HX10 := Lib.hid (HX9.out.later hb)
    have HV10 := Lib.hid (HV9.out.later hb)
    have hmu := rmulp_any (tr C) G o10 o2 c10 c2 w10 hr10 (HY9.out.later hb) (by have := HLEN.out; have := HCL.out; omega)
    rw [← HMM.out] at hmu
    have HMU := Lib.hid hmu
    obtain ⟨t, ht⟩ : ∃ t, (tr C).length = t := ⟨_, rfl⟩
    rw [ht] at HMU HN3 ⊢
    have htL : (t : Int) = (L : Int) + 1 := by have := HN3.out; omega
    have hnb : ((t : Int) == (L : Int) + 1) = true := by rw [htL]; simp
    have hnn : ((t : Int) != (L : Int) + 1) = false := by rw [htL]; simp
    clear hb ht hr10 hmu htL
    go_wp2_with fail
    refine HMU.out.mono ?_; rintro e w11 ⟨xx, rfl, ⟨o11, c11, rfl, hr11⟩, hb⟩
    have HB11 := Lib.hid (Kit.step HB10.out hb)
    have HF11 : Hid (w11.heap[F]? = some (.cells #[.int .i64 (L : Int), .slice o6 M.length c6, .slice o9 V.length c9] 46 (0, 0))) := Lib.hid (by rw [hb.block _ (Array.getElem?_eq_some_iff.1 HF10.out).1]; exact HF10.out)
    have hg11 : w11.heap[w.heap.size]? = some (.cells CS 23 (0, 0)) := by rw [hb.block _ (Array.getElem?_eq_some_iff.1 HG10.out).1]; exact HG10.out
    have HX11 := Lib.hid (HX10.out.later hb)
    have HV11 := Lib.hid (HV10.out.later hb)
    have HR11 := Lib.hid hr11
    have hrs : RowIs w11 (some ⟨w.heap.size, 0, none⟩) (bytesV s) s.length := row_typed (by rw [HCS.out]; exact hg11) (by rw [HSL.out]; unfold maxLen; omega)
    have hm2 := rmulp_any s M _ o11 _ c11 w11 hrs hr11 (by have := HSL.out; have := HML.out; omega)
    rw [HPS.out, HSL.out] at hm2
    have HM2 := Lib.hid hm2
    have hu := arr_under
    clear hb hr11 hrs hm2 hg11
    go_wp2_with fail
    refine HM2.out.mono ?_; rintro e w12 ⟨xx, rfl, ⟨o12, c12, rfl, hr12⟩, hb⟩
    have HB12 := Lib.hid (Kit.step HB11.out hb)
    have hf12 : w12.heap[F]? = some (.cells #[.int .i64 (L : Int), .slice o6 M.length c6, .slice o9 V.length c9] 46 (0, 0)) := by rw [hb.block _ (Array.getElem?_eq_some_iff.1 HF11.out).1]; exact HF11.out
    have hcF : ∀ (k : Nat) (y : Value), #[.int .i64 (L : Int), .slice o6 M.length c6, .slice o9 V.length c9][k]? = some y → ∀ v, Below w12.heap.size w12 v → v.cell? ⟨F, k, none⟩ = some y := fun k y hy v hv => by
      have : v.heap[F]? = some (.cells #[.int .i64 (L : Int), .slice o6 M.length c6, .slice o9 V.length c9] 46 (0, 0)) := by rw [hv.block _ (Array.getElem?_eq_some_iff.1 hf12).1]; exact hf12
      rw [cell_of_row _ _ k _ _ _ this]; exact hy
    have HCF := Lib.hid hcF
    have HX12 := Lib.hid (HX11.out.later hb)
    have HV12 := Lib.hid (HV11.out.later hb)
    have HM12 := Lib.hid (HR11.out.later hb)
    have hcap := hr12.cap
    have hlec := hr12.le
    simp only [bytesV_length] at hlec
    unfold maxLen at hcap
    have HR12 := Lib.hid hr12
    clear hb hf12 hcF hr12 hu
    by_cases h32P : 32 < P.length
    · have hd32 : decide ((32 : Int) < (P.length : Int)) = true := decide_eq_true (by omega)
      have hQ := HQ.out
      rw [if_pos h32P] at hQ
      have HQL : Hid (Q.length = 32) := Lib.hid (by rw [← hQ, List.length_take]; omega)
      have HQR : Hid (RowIs w12 o12 (bytesV Q) c12) := Lib.hid (by rw [← hQ]; exact HR12.out.take 32)
      have hc32 : (32 : Int) ≤ (c12 : Int) := by omega
      clear h32P hQ
      go_wp2_with fail
      obtain ⟨y17, hy17⟩ : ∃ y : Value, .slice o12 32 c12 = y := ⟨_, rfl⟩
      have hq17 : RowV Q y17 w12 := by rw [← hy17]; exact ⟨_, _, by rw [HQL.out], HQR.out⟩
      have hql : Q.length ≤ 1000000 := by have := HQL.out; omega
      have hvq := HVQ.out
      subst hvq
      have h6 := HX12.out
      have h9 := HV12.out
      have hcF0 := fun v hv => HCF.out 0 _ rfl v hv
      have hcF1 := fun v hv => HCF.out 1 _ rfl v hv
      have hcF2 := fun v hv => HCF.out 2 _ rfl v hv
      obtain ⟨y16, hy16⟩ : ∃ y : Value, .slice o11 M.length c11 = y := ⟨_, rfl⟩
      have hm16 : RowV M y16 w12 := by rw [← hy16]; exact ⟨_, _, rfl, HM12.out⟩
      rw [hy16, hy17]
      refine Rg.region_grow (by kernel_rfl) (LfiG M Q L F) (by kernel_rfl) LfiG.later ?gd ?step ?fin
      case gd =>
        intro i op k t ho hg x v hG
        have hi := (Array.getElem?_eq_some_iff.1 ho).1
        match i, hi with
        | 0, _ =>
          obtain rfl := Option.some.inj ho
          cases hg
        | 1, _ =>
          obtain rfl := Option.some.inj ho
          cases hg
        | 2, _ =>
          obtain rfl := Option.some.inj ho
          cases hg
        | 3, _ =>
          obtain rfl := Option.some.inj ho
          obtain ⟨rfl, rfl⟩ : 2 = k ∧ true = t := by simpa using hg
          exact hG
        | 4, _ =>
          obtain rfl := Option.some.inj ho
          obtain ⟨rfl, rfl⟩ : 2 = k ∧ true = t := by simpa using hg
          exact hG
        | 5, _ =>
          obtain rfl := Option.some.inj ho
          obtain ⟨rfl, rfl⟩ : 2 = k ∧ true = t := by simpa using hg
          exact hG
        | 6, _ =>
          obtain rfl := Option.some.inj ho
          obtain ⟨rfl, rfl⟩ : 2 = k ∧ true = t := by simpa using hg
          exact hG
        | 7, _ =>
          obtain rfl := Option.some.inj ho
          cases hg
        | 8, _ =>
          obtain rfl := Option.some.inj ho
          cases hg
        | 9, _ =>
          obtain rfl := Option.some.inj ho
          obtain ⟨rfl, rfl⟩ : 8 = k ∧ true = t := by simpa using hg
          exact hG
        | 10, _ =>
          obtain rfl := Option.some.inj ho
          obtain ⟨rfl, rfl⟩ : 8 = k ∧ true = t := by simpa using hg
          exact hG
        | 11, _ =>
          obtain rfl := Option.some.inj ho
          obtain ⟨rfl, rfl⟩ : 8 = k ∧ true = t := by simpa using hg
          exact hG
        | 12, _ =>
          obtain rfl := Option.some.inj ho
          obtain ⟨rfl, rfl⟩ : 8 = k ∧ true = t := by simpa using hg
          exact hG
        | 13, _ =>
          obtain rfl := Option.some.inj ho
          obtain ⟨rfl, rfl⟩ : 8 = k ∧ true = t := by simpa using hg
          exact hG
        | 14, _ =>
          obtain rfl := Option.some.inj ho
          obtain ⟨rfl, rfl⟩ : 8 = k ∧ true = t := by simpa using hg
          exact hG
        | 15, _ =>
          obtain rfl := Option.some.inj ho
          cases hg
        | 16, _ =>
          obtain rfl := Option.some.inj ho
          cases hg
        | 17, _ =>
          obtain rfl := Option.some.inj ho
          obtain ⟨rfl, rfl⟩ : 16 = k ∧ true = t := by simpa using hg
          exact hG
        | 18, _ =>
          obtain rfl := Option.some.inj ho
          obtain ⟨rfl, rfl⟩ : 16 = k ∧ true = t := by simpa using hg
          exact hG
        | 19, _ =>
          obtain rfl := Option.some.inj ho
          obtain ⟨rfl, rfl⟩ : 16 = k ∧ true = t := by simpa using hg
          exact hG
        | 20, _ =>
          obtain rfl := Option.some.inj ho
          obtain ⟨rfl, rfl⟩ : 16 = k ∧ true = t := by simpa using hg
          exact hG
        | 21, _ =>
          obtain rfl := Option.some.inj ho
          obtain ⟨rfl, rfl⟩ : 16 = k ∧ true = t := by simpa using hg
          exact hG
        | 22, _ =>
          obtain rfl := Option.some.inj ho
          obtain ⟨rfl, rfl⟩ : 16 = k ∧ true = t := by simpa using hg
          exact hG
        | 23, _ =>
          obtain rfl := Option.some.inj ho
          obtain ⟨rfl, rfl⟩ : 16 = k ∧ true = t := by simpa using hg
          exact hG
        | 24, _ =>
          obtain rfl := Option.some.inj ho
          cases hg
        | 25, _ =>
          obtain rfl := Option.some.inj ho
          cases hg
        | n + 26, h => exact absurd h (by simp)
      case step =>
        intro i op b v ho hb hrest hdep
        have r8 : b.eval (.tmp 8) = .nilIface := hrest 8 (Rg.free_spec (by kernel_rfl))
        have r7 : b.eval (.tmp 7) = .pointer (some ⟨F, 0, none⟩) := hrest 7 (Rg.free_spec (by kernel_rfl))
        have r12 : b.eval (.tmp 12) = .int .i64 (L : Int) := hrest 12 (Rg.free_spec (by kernel_rfl))
        have r16 : b.eval (.tmp 16) = y16 := hrest 16 (Rg.free_spec (by kernel_rfl))
        have r17 : b.eval (.tmp 17) = y17 := hrest 17 (Rg.free_spec (by kernel_rfl))
        have hi := (Array.getElem?_eq_some_iff.1 ho).1
        match i, hi with
        | 0, _ =>
          obtain rfl := Option.some.inj ho
          have d1 : b.eval (.tmp 8) = .nilIface := r8
          exact Rg.does_move rfl d1
        | 1, _ =>
          obtain rfl := Option.some.inj ho
          have d1 : (b.eval (.tmp 102)) = .nilIface := hdep ⟨0, .data⟩ (by simp) rfl _ _ rfl rfl
          have f1 : b.tmps[102]?.getD undef = _ := (show _ = b.eval (.tmp 102) by simp [Act.eval]).trans d1
          refine Rg.does_pure (.bool true) ?_ rfl
          simp only [execOp]
          go_simp
        | 2, _ =>
          obtain rfl := Option.some.inj ho
          have d1 : (b.eval (.tmp 103)) = .bool true := hdep ⟨1, .data⟩ (by simp) rfl _ _ rfl rfl
          exact Rg.does_move rfl d1
        | 3, _ =>
          obtain rfl := Option.some.inj ho
          have d1 : b.eval (.tmp 7) = .pointer (some ⟨F, 0, none⟩) := r7
          have f1 : b.tmps[7]?.getD undef = _ := (show _ = b.eval (.tmp 7) by simp [Act.eval]).trans d1
          refine Rg.does_pure (.pointer (some ⟨F, 0, none⟩)) ?_ rfl
          simp only [execOp]
          go_simp
        | 4, _ =>
          obtain rfl := Option.some.inj ho
          have d1 : b.eval (.tmp 105) = .pointer (some ⟨F, 0, none⟩) := hdep ⟨3, .data⟩ (by simp) rfl _ _ rfl rfl
          have f1 : b.tmps[105]?.getD undef = _ := (show _ = b.eval (.tmp 105) by simp [Act.eval]).trans d1
          have hcell := hcF0 v hb
          refine Rg.does_pure (.int .i64 (L : Int)) ?_ (rfl)
          simp only [execOp]
          go_simp
        | 5, _ =>
          obtain rfl := Option.some.inj ho
          have d1 : b.eval (.tmp 12) = .int .i64 (L : Int) := r12
          exact Rg.does_move rfl d1
        | 6, _ =>
          obtain rfl := Option.some.inj ho
          have d1 : (b.eval (.tmp 106)) = .int .i64 (L : Int) := hdep ⟨4, .data⟩ (by simp) rfl _ _ rfl rfl
          have d2 : (b.eval (.tmp 107)) = .int .i64 (L : Int) := hdep ⟨5, .data⟩ (by simp) rfl _ _ rfl rfl
          have f1 : b.tmps[106]?.getD undef = _ := (show _ = b.eval (.tmp 106) by simp [Act.eval]).trans d1
          have f2 : b.tmps[107]?.getD undef = _ := (show _ = b.eval (.tmp 107) by simp [Act.eval]).trans d2
          refine Rg.does_pure (.bool true) ?_ rfl
          simp only [execOp]
          go_simp
        | 7, _ =>
          obtain rfl := Option.some.inj ho
          have d1 : (b.eval (.tmp 104)) = .bool true := hdep ⟨2, .data⟩ (by simp) rfl _ _ rfl rfl
          have d2 : (b.eval (.tmp 108)) = .bool true := hdep ⟨6, .data⟩ (by simp) rfl _ _ rfl rfl
          exact Rg.does_pick rfl d1 d2
        | 8, _ =>
          obtain rfl := Option.some.inj ho
          have d1 : (b.eval (.tmp 109)) = .bool true := hdep ⟨7, .data⟩ (by simp) rfl _ _ rfl rfl
          exact Rg.does_move rfl d1
        | 9, _ =>
          obtain rfl := Option.some.inj ho
          have d1 : b.eval (.tmp 7) = .pointer (some ⟨F, 0, none⟩) := r7
          have f1 : b.tmps[7]?.getD undef = _ := (show _ = b.eval (.tmp 7) by simp [Act.eval]).trans d1
          refine Rg.does_pure (.pointer (some ⟨F, 1, none⟩)) ?_ rfl
          simp only [execOp]
          go_simp
        | 10, _ =>
          obtain rfl := Option.some.inj ho
          have d1 : b.eval (.tmp 111) = .pointer (some ⟨F, 1, none⟩) := hdep ⟨9, .data⟩ (by simp) rfl _ _ rfl rfl
          have f1 : b.tmps[111]?.getD undef = _ := (show _ = b.eval (.tmp 111) by simp [Act.eval]).trans d1
          have hcell := hcF1 v hb
          refine Rg.does_pure (.slice o6 M.length c6) ?_ (⟨o6, c6, rfl, h6.later hb⟩)
          simp only [execOp]
          go_simp
        | 11, _ =>
          obtain rfl := Option.some.inj ho
          have d1 : RowV (M) (b.eval (.tmp 112)) v := hdep ⟨10, .data⟩ (by simp) rfl _ _ rfl rfl
          exact Rg.does_conv rfl (conv_rv d1) (rfl)
        | 12, _ =>
          obtain rfl := Option.some.inj ho
          have d1 : RowV (M) (b.eval (.tmp 16)) v := by rw [r16]; exact hm16.later hb
          exact Rg.does_move rfl d1
        | 13, _ =>
          obtain rfl := Option.some.inj ho
          have d1 : RowV (M) (b.eval (.tmp 114)) v := hdep ⟨12, .data⟩ (by simp) rfl _ _ rfl rfl
          exact Rg.does_conv rfl (conv_rv d1) (rfl)
        | 14, _ =>
          obtain rfl := Option.some.inj ho
          have d1 : (b.eval (.tmp 113)) = .string ⟨(M).toArray⟩ := hdep ⟨11, .data⟩ (by simp) rfl _ _ rfl rfl
          have d2 : (b.eval (.tmp 115)) = .string ⟨(M).toArray⟩ := hdep ⟨13, .data⟩ (by simp) rfl _ _ rfl rfl
          have f1 : b.tmps[113]?.getD undef = _ := (show _ = b.eval (.tmp 113) by simp [Act.eval]).trans d1
          have f2 : b.tmps[115]?.getD undef = _ := (show _ = b.eval (.tmp 115) by simp [Act.eval]).trans d2
          refine Rg.does_pure (.bool true) ?_ rfl
          have hu := Tryd.underlying9
          simp only [execOp]
          go_simp
        | 15, _ =>
          obtain rfl := Option.some.inj ho
          have d1 : (b.eval (.tmp 110)) = .bool true := hdep ⟨8, .data⟩ (by simp) rfl _ _ rfl rfl
          have d2 : (b.eval (.tmp 116)) = .bool true := hdep ⟨14, .data⟩ (by simp) rfl _ _ rfl rfl
          exact Rg.does_pick rfl d1 d2
        | 16, _ =>
          obtain rfl := Option.some.inj ho
          have d1 : (b.eval (.tmp 117)) = .bool true := hdep ⟨15, .data⟩ (by simp) rfl _ _ rfl rfl
          exact Rg.does_move rfl d1
        | 17, _ =>
          obtain rfl := Option.some.inj ho
          have d1 : b.eval (.tmp 7) = .pointer (some ⟨F, 0, none⟩) := r7
          have f1 : b.tmps[7]?.getD undef = _ := (show _ = b.eval (.tmp 7) by simp [Act.eval]).trans d1
          refine Rg.does_pure (.pointer (some ⟨F, 2, none⟩)) ?_ rfl
          simp only [execOp]
          go_simp
        | 18, _ =>
          obtain rfl := Option.some.inj ho
          have d1 : b.eval (.tmp 119) = .pointer (some ⟨F, 2, none⟩) := hdep ⟨17, .data⟩ (by simp) rfl _ _ rfl rfl
          have f1 : b.tmps[119]?.getD undef = _ := (show _ = b.eval (.tmp 119) by simp [Act.eval]).trans d1
          have hcell := hcF2 v hb
          refine Rg.does_pure (.slice o9 (tr Q).length c9) ?_ (⟨o9, c9, rfl, h9.later hb⟩)
          simp only [execOp]
          go_simp
        | 19, _ =>
          obtain rfl := Option.some.inj ho
          have d1 : RowV (tr Q) (b.eval (.tmp 120)) v := hdep ⟨18, .data⟩ (by simp) rfl _ _ rfl rfl
          exact Rg.does_conv rfl (conv_rv d1) (rfl)
        | 20, _ =>
          obtain rfl := Option.some.inj ho
          have d1 : RowV (Q) (b.eval (.tmp 17)) v := by rw [r17]; exact hq17.later hb
          exact Rg.does_move rfl d1
        | 21, _ =>
          obtain rfl := Option.some.inj ho
          have d1 : RowV (Q) (b.eval (.tmp 122)) v := hdep ⟨20, .data⟩ (by simp) rfl _ _ rfl rfl
          exact Rg.does_fn rfl (enters_of Tryd.func23 (by kernel_rfl) rfl) (args := #[b.eval (.tmp 122)]) (by simp) (by obtain ⟨o8, c8, e8, h8⟩ := d1; rw [e8]; exact rtrim_any Q o8 c8 v h8 (by omega))
        | 22, _ =>
          obtain rfl := Option.some.inj ho
          have d1 : RowV (tr Q) (b.eval (.tmp 123)) v := hdep ⟨21, .data⟩ (by simp) rfl _ _ rfl rfl
          exact Rg.does_conv rfl (conv_rv d1) (rfl)
        | 23, _ =>
          obtain rfl := Option.some.inj ho
          have d1 : (b.eval (.tmp 121)) = .string ⟨(tr Q).toArray⟩ := hdep ⟨19, .data⟩ (by simp) rfl _ _ rfl rfl
          have d2 : (b.eval (.tmp 124)) = .string ⟨(tr Q).toArray⟩ := hdep ⟨22, .data⟩ (by simp) rfl _ _ rfl rfl
          have f1 : b.tmps[121]?.getD undef = _ := (show _ = b.eval (.tmp 121) by simp [Act.eval]).trans d1
          have f2 : b.tmps[124]?.getD undef = _ := (show _ = b.eval (.tmp 124) by simp [Act.eval]).trans d2
          refine Rg.does_pure (.bool true) ?_ rfl
          have hu := Tryd.underlying9
          simp only [execOp]
          go_simp
        | 24, _ =>
          obtain rfl := Option.some.inj ho
          have d1 : (b.eval (.tmp 118)) = .bool true := hdep ⟨16, .data⟩ (by simp) rfl _ _ rfl rfl
          have d2 : (b.eval (.tmp 125)) = .bool true := hdep ⟨23, .data⟩ (by simp) rfl _ _ rfl rfl
          exact Rg.does_pick rfl d1 d2
        | 25, _ =>
          obtain rfl := Option.some.inj ho
          have d1 : (b.eval (.tmp 126)) = .bool true := hdep ⟨24, .data⟩ (by simp) rfl _ _ rfl rfl
          exact Rg.does_assign rfl d1
        | n + 26, h => exact absurd h (by simp)
      case fin =>
        intro b v2 hb2 hs hd hrest hall
        have h4 : b.tmps.getD 6 undef = .bool true := hall 25 _ 6 rfl rfl
        have HBZ := Lib.hid (Kit.step HB12.out hb2)
        go_wp2
        refine bodyPost_ret (results_tmp rfl _ _ _) hd ?_
        exact ⟨by rw [h4], HBZ.out⟩
    · have hd32 : decide ((32 : Int) < (P.length : Int)) = false := decide_eq_false (by omega)
      have hQ := HQ.out
      rw [if_neg h32P] at hQ
      have HPQ := Lib.hid hQ
      clear h32P hQ
      go_wp2_with fail
      obtain ⟨y17, hy17⟩ : ∃ y : Value, .slice o12 P.length c12 = y := ⟨_, rfl⟩
      have hq17 : RowV Q y17 w12 := by rw [← hy17, ← HPQ.out]; exact ⟨_, _, rfl, HR12.out⟩
      have hql : Q.length ≤ 1000000 := by rw [← HPQ.out]; have := HPL.out; omega
      have hvq := HVQ.out
      subst hvq
      have h6 := HX12.out
      have h9 := HV12.out
      have hcF0 := fun v hv => HCF.out 0 _ rfl v hv
      have hcF1 := fun v hv => HCF.out 1 _ rfl v hv
      have hcF2 := fun v hv => HCF.out 2 _ rfl v hv
      obtain ⟨y16, hy16⟩ : ∃ y : Value, .slice o11 M.length c11 = y := ⟨_, rfl⟩
      have hm16 : RowV M y16 w12 := by rw [← hy16]; exact ⟨_, _, rfl, HM12.out⟩
      rw [hy16, hy17]
      refine Rg.region_grow (by kernel_rfl) (LfiG M Q L F) (by kernel_rfl) LfiG.later ?gd ?step ?fin
      case gd =>
        intro i op k t ho hg x v hG
        have hi := (Array.getElem?_eq_some_iff.1 ho).1
        match i, hi with
        | 0, _ =>
          obtain rfl := Option.some.inj ho
          cases hg
        | 1, _ =>
          obtain rfl := Option.some.inj ho
          cases hg
        | 2, _ =>
          obtain rfl := Option.some.inj ho
          cases hg
        | 3, _ =>
          obtain rfl := Option.some.inj ho
          obtain ⟨rfl, rfl⟩ : 2 = k ∧ true = t := by simpa using hg
          exact hG
        | 4, _ =>
          obtain rfl := Option.some.inj ho
          obtain ⟨rfl, rfl⟩ : 2 = k ∧ true = t := by simpa using hg
          exact hG
        | 5, _ =>
          obtain rfl := Option.some.inj ho
          obtain ⟨rfl, rfl⟩ : 2 = k ∧ true = t := by simpa using hg
          exact hG
        | 6, _ =>
          obtain rfl := Option.some.inj ho
          obtain ⟨rfl, rfl⟩ : 2 = k ∧ true = t := by simpa using hg
          exact hG
        | 7, _ =>
          obtain rfl := Option.some.inj ho
          cases hg
        | 8, _ =>
          obtain rfl := Option.some.inj ho
          cases hg
        | 9, _ =>
          obtain rfl := Option.some.inj ho
          obtain ⟨rfl, rfl⟩ : 8 = k ∧ true = t := by simpa using hg
          exact hG
        | 10, _ =>
          obtain rfl := Option.some.inj ho
          obtain ⟨rfl, rfl⟩ : 8 = k ∧ true = t := by simpa using hg
          exact hG
        | 11, _ =>
          obtain rfl := Option.some.inj ho
          obtain ⟨rfl, rfl⟩ : 8 = k ∧ true = t := by simpa using hg
          exact hG
        | 12, _ =>
          obtain rfl := Option.some.inj ho
          obtain ⟨rfl, rfl⟩ : 8 = k ∧ true = t := by simpa using hg
          exact hG
        | 13, _ =>
          obtain rfl := Option.some.inj ho
          obtain ⟨rfl, rfl⟩ : 8 = k ∧ true = t := by simpa using hg
          exact hG
        | 14, _ =>
          obtain rfl := Option.some.inj ho
          obtain ⟨rfl, rfl⟩ : 8 = k ∧ true = t := by simpa using hg
          exact hG
        | 15, _ =>
          obtain rfl := Option.some.inj ho
          cases hg
        | 16, _ =>
          obtain rfl := Option.some.inj ho
          cases hg
        | 17, _ =>
          obtain rfl := Option.some.inj ho
          obtain ⟨rfl, rfl⟩ : 16 = k ∧ true = t := by simpa using hg
          exact hG
        | 18, _ =>
          obtain rfl := Option.some.inj ho
          obtain ⟨rfl, rfl⟩ : 16 = k ∧ true = t := by simpa using hg
          exact hG
        | 19, _ =>
          obtain rfl := Option.some.inj ho
          obtain ⟨rfl, rfl⟩ : 16 = k ∧ true = t := by simpa using hg
          exact hG
        | 20, _ =>
          obtain rfl := Option.some.inj ho
          obtain ⟨rfl, rfl⟩ : 16 = k ∧ true = t := by simpa using hg
          exact hG
        | 21, _ =>
          obtain rfl := Option.some.inj ho
          obtain ⟨rfl, rfl⟩ : 16 = k ∧ true = t := by simpa using hg
          exact hG
        | 22, _ =>
          obtain rfl := Option.some.inj ho
          obtain ⟨rfl, rfl⟩ : 16 = k ∧ true = t := by simpa using hg
          exact hG
        | 23, _ =>
          obtain rfl := Option.some.inj ho
          obtain ⟨rfl, rfl⟩ : 16 = k ∧ true = t := by simpa using hg
          exact hG
        | 24, _ =>
          obtain rfl := Option.some.inj ho
          cases hg
        | 25, _ =>
          obtain rfl := Option.some.inj ho
          cases hg
        | n + 26, h => exact absurd h (by simp)
      case step =>
        intro i op b v ho hb hrest hdep
        have r8 : b.eval (.tmp 8) = .nilIface := hrest 8 (Rg.free_spec (by kernel_rfl))
        have r7 : b.eval (.tmp 7) = .pointer (some ⟨F, 0, none⟩) := hrest 7 (Rg.free_spec (by kernel_rfl))
        have r12 : b.eval (.tmp 12) = .int .i64 (L : Int) := hrest 12 (Rg.free_spec (by kernel_rfl))
        have r16 : b.eval (.tmp 16) = y16 := hrest 16 (Rg.free_spec (by kernel_rfl))
        have r17 : b.eval (.tmp 17) = y17 := hrest 17 (Rg.free_spec (by kernel_rfl))
        have hi := (Array.getElem?_eq_some_iff.1 ho).1
        match i, hi with
        | 0, _ =>
          obtain rfl := Option.some.inj ho
          have d1 : b.eval (.tmp 8) = .nilIface := r8
          exact Rg.does_move rfl d1
        | 1, _ =>
          obtain rfl := Option.some.inj ho
          have d1 : (b.eval (.tmp 102)) = .nilIface := hdep ⟨0, .data⟩ (by simp) rfl _ _ rfl rfl
          have f1 : b.tmps[102]?.getD undef = _ := (show _ = b.eval (.tmp 102) by simp [Act.eval]).trans d1
          refine Rg.does_pure (.bool true) ?_ rfl
          simp only [execOp]
          go_simp
        | 2, _ =>
          obtain rfl := Option.some.inj ho
          have d1 : (b.eval (.tmp 103)) = .bool true := hdep ⟨1, .data⟩ (by simp) rfl _ _ rfl rfl
          exact Rg.does_move rfl d1
        | 3, _ =>
          obtain rfl := Option.some.inj ho
          have d1 : b.eval (.tmp 7) = .pointer (some ⟨F, 0, none⟩) := r7
          have f1 : b.tmps[7]?.getD undef = _ := (show _ = b.eval (.tmp 7) by simp [Act.eval]).trans d1
          refine Rg.does_pure (.pointer (some ⟨F, 0, none⟩)) ?_ rfl
          simp only [execOp]
          go_simp
        | 4, _ =>
          obtain rfl := Option.some.inj ho
          have d1 : b.eval (.tmp 105) = .pointer (some ⟨F, 0, none⟩) := hdep ⟨3, .data⟩ (by simp) rfl _ _ rfl rfl
          have f1 : b.tmps[105]?.getD undef = _ := (show _ = b.eval (.tmp 105) by simp [Act.eval]).trans d1
          have hcell := hcF0 v hb
          refine Rg.does_pure (.int .i64 (L : Int)) ?_ (rfl)
          simp only [execOp]
          go_simp
        | 5, _ =>
          obtain rfl := Option.some.inj ho
          have d1 : b.eval (.tmp 12) = .int .i64 (L : Int) := r12
          exact Rg.does_move rfl d1
        | 6, _ =>
          obtain rfl := Option.some.inj ho
          have d1 : (b.eval (.tmp 106)) = .int .i64 (L : Int) := hdep ⟨4, .data⟩ (by simp) rfl _ _ rfl rfl
          have d2 : (b.eval (.tmp 107)) = .int .i64 (L : Int) := hdep ⟨5, .data⟩ (by simp) rfl _ _ rfl rfl
          have f1 : b.tmps[106]?.getD undef = _ := (show _ = b.eval (.tmp 106) by simp [Act.eval]).trans d1
          have f2 : b.tmps[107]?.getD undef = _ := (show _ = b.eval (.tmp 107) by simp [Act.eval]).trans d2
          refine Rg.does_pure (.bool true) ?_ rfl
          simp only [execOp]
          go_simp
        | 7, _ =>
          obtain rfl := Option.some.inj ho
          have d1 : (b.eval (.tmp 104)) = .bool true := hdep ⟨2, .data⟩ (by simp) rfl _ _ rfl rfl
          have d2 : (b.eval (.tmp 108)) = .bool true := hdep ⟨6, .data⟩ (by simp) rfl _ _ rfl rfl
          exact Rg.does_pick rfl d1 d2
        | 8, _ =>
          obtain rfl := Option.some.inj ho
          have d1 : (b.eval (.tmp 109)) = .bool true := hdep ⟨7, .data⟩ (by simp) rfl _ _ rfl rfl
          exact Rg.does_move rfl d1
        | 9, _ =>
          obtain rfl := Option.some.inj ho
          have d1 : b.eval (.tmp 7) = .pointer (some ⟨F, 0, none⟩) := r7
          have f1 : b.tmps[7]?.getD undef = _ := (show _ = b.eval (.tmp 7) by simp [Act.eval]).trans d1
          refine Rg.does_pure (.pointer (some ⟨F, 1, none⟩)) ?_ rfl
          simp only [execOp]
          go_simp
        | 10, _ =>
          obtain rfl := Option.some.inj ho
          have d1 : b.eval (.tmp 111) = .pointer (some ⟨F, 1, none⟩) := hdep ⟨9, .data⟩ (by simp) rfl _ _ rfl rfl
          have f1 : b.tmps[111]?.getD undef = _ := (show _ = b.eval (.tmp 111) by simp [Act.eval]).trans d1
          have hcell := hcF1 v hb
          refine Rg.does_pure (.slice o6 M.length c6) ?_ (⟨o6, c6, rfl, h6.later hb⟩)
          simp only [execOp]
          go_simp
        | 11, _ =>
          obtain rfl := Option.some.inj ho
          have d1 : RowV (M) (b.eval (.tmp 112)) v := hdep ⟨10, .data⟩ (by simp) rfl _ _ rfl rfl
          exact Rg.does_conv rfl (conv_rv d1) (rfl)
        | 12, _ =>
          obtain rfl := Option.some.inj ho
          have d1 : RowV (M) (b.eval (.tmp 16)) v := by rw [r16]; exact hm16.later hb
          exact Rg.does_move rfl d1
        | 13, _ =>
          obtain rfl := Option.some.inj ho
          have d1 : RowV (M) (b.eval (.tmp 114)) v := hdep ⟨12, .data⟩ (by simp) rfl _ _ rfl rfl
          exact Rg.does_conv rfl (conv_rv d1) (rfl)
        | 14, _ =>
          obtain rfl := Option.some.inj ho
          have d1 : (b.eval (.tmp 113)) = .string ⟨(M).toArray⟩ := hdep ⟨11, .data⟩ (by simp) rfl _ _ rfl rfl
          have d2 : (b.eval (.tmp 115)) = .string ⟨(M).toArray⟩ := hdep ⟨13, .data⟩ (by simp) rfl _ _ rfl rfl
          have f1 : b.tmps[113]?.getD undef = _ := (show _ = b.eval (.tmp 113) by simp [Act.eval]).trans d1
          have f2 : b.tmps[115]?.getD undef = _ := (show _ = b.eval (.tmp 115) by simp [Act.eval]).trans d2
          refine Rg.does_pure (.bool true) ?_ rfl
          have hu := Tryd.underlying9
          simp only [execOp]
          go_simp
        | 15, _ =>
          obtain rfl := Option.some.inj ho
          have d1 : (b.eval (.tmp 110)) = .bool true := hdep ⟨8, .data⟩ (by simp) rfl _ _ rfl rfl
          have d2 : (b.eval (.tmp 116)) = .bool true := hdep ⟨14, .data⟩ (by simp) rfl _ _ rfl rfl
          exact Rg.does_pick rfl d1 d2
        | 16, _ =>
          obtain rfl := Option.some.inj ho
          have d1 : (b.eval (.tmp 117)) = .bool true := hdep ⟨15, .data⟩ (by simp) rfl _ _ rfl rfl
          exact Rg.does_move rfl d1
        | 17, _ =>
          obtain rfl := Option.some.inj ho
          have d1 : b.eval (.tmp 7) = .pointer (some ⟨F, 0, none⟩) := r7
          have f1 : b.tmps[7]?.getD undef = _ := (show _ = b.eval (.tmp 7) by simp [Act.eval]).trans d1
          refine Rg.does_pure (.pointer (some ⟨F, 2, none⟩)) ?_ rfl
          simp only [execOp]
          go_simp
        | 18, _ =>
          obtain rfl := Option.some.inj ho
          have d1 : b.eval (.tmp 119) = .pointer (some ⟨F, 2, none⟩) := hdep ⟨17, .data⟩ (by simp) rfl _ _ rfl rfl
          have f1 : b.tmps[119]?.getD undef = _ := (show _ = b.eval (.tmp 119) by simp [Act.eval]).trans d1
          have hcell := hcF2 v hb
          refine Rg.does_pure (.slice o9 (tr Q).length c9) ?_ (⟨o9, c9, rfl, h9.later hb⟩)
          simp only [execOp]
          go_simp
        | 19, _ =>
          obtain rfl := Option.some.inj ho
          have d1 : RowV (tr Q) (b.eval (.tmp 120)) v := hdep ⟨18, .data⟩ (by simp) rfl _ _ rfl rfl
          exact Rg.does_conv rfl (conv_rv d1) (rfl)
        | 20, _ =>
          obtain rfl := Option.some.inj ho
          have d1 : RowV (Q) (b.eval (.tmp 17)) v := by rw [r17]; exact hq17.later hb
          exact Rg.does_move rfl d1
        | 21, _ =>
          obtain rfl := Option.some.inj ho
          have d1 : RowV (Q) (b.eval (.tmp 122)) v := hdep ⟨20, .data⟩ (by simp) rfl _ _ rfl rfl
          exact Rg.does_fn rfl (enters_of Tryd.func23 (by kernel_rfl) rfl) (args := #[b.eval (.tmp 122)]) (by simp) (by obtain ⟨o8, c8, e8, h8⟩ := d1; rw [e8]; exact rtrim_any Q o8 c8 v h8 (by omega))
        | 22, _ =>
          obtain rfl := Option.some.inj ho
          have d1 : RowV (tr Q) (b.eval (.tmp 123)) v := hdep ⟨21, .data⟩ (by simp) rfl _ _ rfl rfl
          exact Rg.does_conv rfl (conv_rv d1) (rfl)
        | 23, _ =>
          obtain rfl := Option.some.inj ho
          have d1 : (b.eval (.tmp 121)) = .string ⟨(tr Q).toArray⟩ := hdep ⟨19, .data⟩ (by simp) rfl _ _ rfl rfl
          have d2 : (b.eval (.tmp 124)) = .string ⟨(tr Q).toArray⟩ := hdep ⟨22, .data⟩ (by simp) rfl _ _ rfl rfl
          have f1 : b.tmps[121]?.getD undef = _ := (show _ = b.eval (.tmp 121) by simp [Act.eval]).trans d1
          have f2 : b.tmps[124]?.getD undef = _ := (show _ = b.eval (.tmp 124) by simp [Act.eval]).trans d2
          refine Rg.does_pure (.bool true) ?_ rfl
          have hu := Tryd.underlying9
          simp only [execOp]
          go_simp
        | 24, _ =>
          obtain rfl := Option.some.inj ho
          have d1 : (b.eval (.tmp 118)) = .bool true := hdep ⟨16, .data⟩ (by simp) rfl _ _ rfl rfl
          have d2 : (b.eval (.tmp 125)) = .bool true := hdep ⟨23, .data⟩ (by simp) rfl _ _ rfl rfl
          exact Rg.does_pick rfl d1 d2
        | 25, _ =>
          obtain rfl := Option.some.inj ho
          have d1 : (b.eval (.tmp 126)) = .bool true := hdep ⟨24, .data⟩ (by simp) rfl _ _ rfl rfl
          exact Rg.does_assign rfl d1
        | n + 26, h => exact absurd h (by simp)
      case fin =>
        intro b v2 hb2 hs hd hrest hall
        have h4 : b.tmps.getD 6 undef = .bool true := hall 25 _ 6 rfl rfl
        have HBZ := Lib.hid (Kit.step HB12.out hb2)
        go_wp2
        refine bodyPost_ret (results_tmp rfl _ _ _) hd ?_
        exact ⟨by rw [h4], HBZ.out⟩
theorem lfi_walk (n : Int) (z : List Int) (s : List UInt8) (c : Nat) (o : Option Addr) (w : World) (A : Nat → Addr) (hs : s.length = 32) (hS : RowIs w o (intsV z) c) (hE : Er.Errs w A) (hz : ∀ p ∈ z, (Lit.int .i64 p).wf = true) :
    Calls Tryd.prog 5 #[.agg (bytesV s).toArray, .int .i64 n, .slice o z.length c] w fun e w' => e = .returned (.bool true) ∧ Below w.heap.size w w' := by
  have hz2 : ∀ k, k < z.length → -9223372036854775808 ≤ ci z k ∧ ci z k ≤ 9223372036854775807 := fun k hk => by
    have h1 : ci z k ∈ z := by
      unfold ci
      rw [List.getD_eq_getElem?_getD, List.getElem?_eq_getElem hk]
      exact List.getElem_mem hk
    exact i64_wf (hz _ h1)
  by_cases hl : 40 < z.length
  · have h1 := hS.le
    have h2 := hS.cap
    simp only [intsV_length] at h1
    unfold maxLen at h2
    exact lfi_long n z _ c o w (arr_size hs) hl (by omega)
  · rcases er_both n z A (by omega) hz2 with ⟨a, ha⟩ | ⟨m, rfl, hm⟩
    · exact lfi_bad n z s c o w A a hs hS hE (by omega) ha _ rfl
    · exact lfi_good m z s c o w A hs hS hE (by omega) hm _ rfl
end Go.Proofs.YtoefhhkemljjdaaDoor
