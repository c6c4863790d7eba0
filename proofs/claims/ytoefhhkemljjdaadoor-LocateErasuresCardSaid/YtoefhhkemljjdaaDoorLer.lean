/- The walk of LocateErasures. -/
import Derived.Test.YtoefhhkemljjdaaDoorLb
import Derived.Test.YtoefhhkemljjdaaDoorIs
namespace Go.Proofs.YtoefhhkemljjdaaDoor
open Go.RowKit
set_option linter.unusedVariables false
set_option linter.unusedSimpArgs false
/-- what each operation of the region has as its result -/
def LerG (s G : List UInt8) (i : Nat) (x : Value) (v : World) : Prop :=
  match i with
  | 0 => (x) = .int .i64 0
  | 1 | 2 => (x) = .bool false
  | 3 | 7 => (x) = .agg (bytesV s).toArray
  | 4 | 8 => RowV (G) (x) v
  | 5 | 9 => RowV (forL s G) (x) v
  | 6 | 10 => (x) = .string ⟨(forL s G).toArray⟩
  | _ => (x) = .bool true
theorem LerG.later {s G : List UInt8} (i : Nat) (x : Value) (v v' : World) (h : LerG s G i x v) (hb : Below v.heap.size v v') : LerG s G i x v' := by
  unfold LerG at *
  split at h <;> first | exact h | exact h.later hb
set_option maxRecDepth 100000 in
set_option maxHeartbeats 4000000 in
theorem ler_long (n : Int) (z : List Int) (CS : Array Value) (c : Nat) (o : Option Addr) (w : World) (hm : (Tryd.prog.info? 23).map (·.size) = some CS.size) (hl : 60 < z.length) (hz : z.length ≤ 9223372036854775807) :
    Calls Tryd.prog 3 #[.int .i64 n, .slice o z.length c, .agg CS] w fun e w' => e = .returned (.bool true) ∧ Below w.heap.size w w' := by
  have hd : decide ((60 : Int) < (z.length : Int)) = true := decide_eq_true (by omega)
  have hb0 := Lib.hid ((Below.refl w.heap.size w).alloc (Nat.le_refl _) (.cells CS 23))
  clear hl
  go_enter Tryd.func3, Tryd.ntmps3
  go_wp2_with fail
  refine (alive4_any _).mono ?_; rintro e w1 ⟨rfl, hb⟩
  have HB := Lib.hid (Kit.step hb0.out hb)
  clear hb
  go_wp2_with fail
  go_ret
  exact ⟨rfl, HB.out⟩
set_option maxRecDepth 100000 in
set_option maxHeartbeats 4000000 in
theorem ler_bad (n : Int) (z : List Int) (CS : Array Value) (c : Nat) (o : Option Addr) (w : World) (A : Nat → Addr) (a : Nat) (hS : RowIs w o (intsV z) c) (hE : Er.Errs w A) (hl : z.length ≤ 60) (hz : ∀ k, k < z.length → -9223372036854775808 ≤ ci z k ∧ ci z k ≤ 9223372036854775807) (hB : ErBad n z A a) :
    Calls Tryd.prog 3 #[.int .i64 n, .slice o z.length c, .agg CS] w fun e w' => e = .returned (.bool true) ∧ Below w.heap.size w w' := by
  have hd : decide ((60 : Int) < (z.length : Int)) = false := decide_eq_false (by omega)
  have HL := Lib.hid hl
  have HB0 := Lib.hid ((Below.refl w.heap.size w).alloc (Nat.le_refl _) (.cells CS 23))
  have HS := Lib.hid hS
  have HE := Lib.hid hE
  have HZ := Lib.hid hz
  have HB := Lib.hid hB
  obtain ⟨m, hm⟩ : ∃ m : Nat, a + 1 = m := ⟨_, rfl⟩
  have hrf := hB.ref
  rw [hm] at hrf
  have HRF := Lib.hid hrf
  have HNU : Hid (∀ v, Er.Errs v A → Calls Tryd.prog 12 #[.iface 122 (.pointer (some (A a)))] v fun e w' => e = .returned (.int .i64 (m : Int)) ∧ Below v.heap.size v w') := Lib.hid fun v hv => by
    have := Er.num_of A a hB.lt v hv
    rwa [hm] at this
  have hm0 : ((m : Int) == 0) = false := beq_false_of_ne (by omega)
  have hm1 : ((m : Int) != 0) = true := by rw [bne_iff_ne]; omega
  have hm2 : ¬ ((m : Int) = 0) := by omega
  have h1 := hS.le
  have h2 := hS.cap
  simp only [intsV_length] at h1
  unfold maxLen at h2
  clear hS hE hz hB hl hm hrf
  go_enter Tryd.func3, Tryd.ntmps3
  go_wp2_with fail
  refine (alive4_any _).mono ?_; rintro e w1 ⟨rfl, hb⟩
  have HB1 := Lib.hid (Kit.step HB0.out hb)
  clear hb
  go_wp2_with fail
  refine (ints_any z o c w1 (HS.out.later HB1.out) (by have := HL.out; omega)).mono ?_; rintro e w2 ⟨B, rfl, hb, _, hM⟩
  have HB2 := Lib.hid (Kit.step HB1.out hb)
  have HM2 := Lib.hid hM
  clear hb hM
  go_wp2_with fail
  refine (HB.out.code w2 _ _ (HM2.out.row (by have := HL.out; omega)) (HE.out.later HB2.out)).mono ?_; rintro e w3 ⟨rfl, hb⟩
  have HB3 := Lib.hid (Kit.step HB2.out hb)
  have HM3 := Lib.hid (HM2.out.later hb)
  unfold er_v
  clear hb HM2
  go_wp2_with fail
  refine (HRF.out w3 o c (HS.out.later HB3.out)).mono ?_; rintro e w4 ⟨rfl, hb⟩
  have HB4 := Lib.hid (Kit.step HB3.out hb)
  have HM4 := Lib.hid (HM3.out.later hb)
  clear hb HM3
  go_wp2_with fail
  refine (HNU.out w4 (HE.out.later HB4.out)).mono ?_; rintro e w5 ⟨rfl, hb⟩
  have HB5 := Lib.hid (Kit.step HB4.out hb)
  have HM5 := Lib.hid (HM4.out.later hb)
  have k1 := conv_rv (⟨none, 0, rfl, ⟨by simp, by simp, fun _ => rfl, fun h => by simp at h⟩⟩ : RowV [] (.slice none 0 0) w5)
  have HKI := Lib.hid (kept_ints z B o c w5 HM5.out (HS.out.later HB5.out) (by have := HL.out; omega) HZ.out)
  clear hb HM4
  go_wp2_with fail
  refine HKI.out.mono ?_; rintro e w6 ⟨rfl, hd6⟩
  have HB6 := Lib.hid (Kit.step HB5.out hd6.below)
  clear hd6 HKI
  go_wp2_with fail
  refine wp_region_noPanic ?_
  refine wp_region_held_drew (S := fun _ => True) (by kernel_rfl) trivial (fun hHeld => ?_)
  refine takeH (i := 0) (x := .int .i64 (m : Int)) rfl rfl (by kernel_rfl) (by kernel_rfl) (by kernel_rfl) (fun _ _ _ h => h) (Or.inl ⟨by rfl, fun w hSw => by (go_simp <;> first | with_reducible rfl | omega)⟩) trivial ?_
  simp only [List.setIfInBounds_toArray, List.set_cons_zero, List.set_cons_succ]
  refine takeH (i := 1) (x := .bool true) rfl rfl (by kernel_rfl) (by kernel_rfl) (by kernel_rfl) (fun _ _ _ h => h) (Or.inl ⟨by rfl, fun w hSw => by (go_simp <;> first | with_reducible rfl | omega)⟩) trivial ?_
  simp only [List.setIfInBounds_toArray, List.set_cons_zero, List.set_cons_succ]
  refine takeH (i := 2) (x := .bool true) rfl rfl (by kernel_rfl) (by kernel_rfl) (by kernel_rfl) (fun _ _ _ h => h) (Or.inl ⟨by rfl, fun w hSw => by (go_simp <;> first | with_reducible rfl | omega)⟩) trivial ?_
  simp only [List.setIfInBounds_toArray, List.set_cons_zero, List.set_cons_succ]
  refine takeH (i := 3) (x := undef) rfl rfl (by kernel_rfl) (by kernel_rfl) (by kernel_rfl) (fun _ _ _ h => h) (Or.inr ⟨by rfl, rfl⟩) trivial ?_
  simp only [List.setIfInBounds_toArray, List.set_cons_zero, List.set_cons_succ]
  refine takeH (i := 4) (x := undef) rfl rfl (by kernel_rfl) (by kernel_rfl) (by kernel_rfl) (fun _ _ _ h => h) (Or.inr ⟨by rfl, rfl⟩) trivial ?_
  simp only [List.setIfInBounds_toArray, List.set_cons_zero, List.set_cons_succ]
  refine takeH (i := 5) (x := undef) rfl rfl (by kernel_rfl) (by kernel_rfl) (by kernel_rfl) (fun _ _ _ h => h) (Or.inr ⟨by rfl, rfl⟩) trivial ?_
  simp only [List.setIfInBounds_toArray, List.set_cons_zero, List.set_cons_succ]
  refine takeH (i := 6) (x := undef) rfl rfl (by kernel_rfl) (by kernel_rfl) (by kernel_rfl) (fun _ _ _ h => h) (Or.inr ⟨by rfl, rfl⟩) trivial ?_
  simp only [List.setIfInBounds_toArray, List.set_cons_zero, List.set_cons_succ]
  refine takeH (i := 7) (x := undef) rfl rfl (by kernel_rfl) (by kernel_rfl) (by kernel_rfl) (fun _ _ _ h => h) (Or.inr ⟨by rfl, rfl⟩) trivial ?_
  simp only [List.setIfInBounds_toArray, List.set_cons_zero, List.set_cons_succ]
  refine takeH (i := 8) (x := undef) rfl rfl (by kernel_rfl) (by kernel_rfl) (by kernel_rfl) (fun _ _ _ h => h) (Or.inr ⟨by rfl, rfl⟩) trivial ?_
  simp only [List.setIfInBounds_toArray, List.set_cons_zero, List.set_cons_succ]
  refine takeH (i := 9) (x := undef) rfl rfl (by kernel_rfl) (by kernel_rfl) (by kernel_rfl) (fun _ _ _ h => h) (Or.inr ⟨by rfl, rfl⟩) trivial ?_
  simp only [List.setIfInBounds_toArray, List.set_cons_zero, List.set_cons_succ]
  refine takeH (i := 10) (x := undef) rfl rfl (by kernel_rfl) (by kernel_rfl) (by kernel_rfl) (fun _ _ _ h => h) (Or.inr ⟨by rfl, rfl⟩) trivial ?_
  simp only [List.setIfInBounds_toArray, List.set_cons_zero, List.set_cons_succ]
  refine takeH (i := 11) (x := undef) rfl rfl (by kernel_rfl) (by kernel_rfl) (by kernel_rfl) (fun _ _ _ h => h) (Or.inr ⟨by rfl, rfl⟩) trivial ?_
  simp only [List.setIfInBounds_toArray, List.set_cons_zero, List.set_cons_succ]
  refine takeH (i := 12) (x := .bool true) rfl rfl (by kernel_rfl) (by kernel_rfl) (by kernel_rfl) (fun _ _ _ h => h) (Or.inl ⟨by rfl, fun w hSw => by (go_simp <;> first | with_reducible rfl | omega)⟩) trivial ?_
  simp only [List.setIfInBounds_toArray, List.set_cons_zero, List.set_cons_succ]
  refine takeH (i := 13) (x := .bool true) rfl rfl (by kernel_rfl) (by kernel_rfl) (by kernel_rfl) (fun _ _ _ h => h) (Or.inl ⟨by rfl, fun w hSw => by (go_simp <;> first | with_reducible rfl | omega)⟩) trivial ?_
  simp only [List.setIfInBounds_toArray, List.set_cons_zero, List.set_cons_succ]
  refine wpAnyH_done (by kernel_rfl) ?_ _
  refine NoPanic.normal ?_
  go_wp2
  go_ret
  exact ⟨rfl, HB6.out.trans ⟨rfl, rfl, rfl, Nat.le_refl _, fun _ _ => rfl⟩⟩
set_option maxRecDepth 100000 in
set_option maxHeartbeats 4000000 in
theorem ler_good (m : Nat) (z : List Int) (s : List UInt8) (c : Nat) (o : Option Addr) (w : World) (hs : s.length = 32) (hS : RowIs w o (intsV z) c) (hl : z.length ≤ 60) (hz : ∀ k, k < z.length → -9223372036854775808 ≤ ci z k ∧ ci z k ≤ 9223372036854775807) (hB : ErGood m z) (CS : Array Value) (hCS : (bytesV s).toArray = CS) :
    Calls Tryd.prog 3 #[.int .i64 m, .slice o z.length c, .agg CS] w fun e w' => e = .returned (.bool true) ∧ Below w.heap.size w w' := by
  have hd : decide ((60 : Int) < (z.length : Int)) = false := decide_eq_false (by omega)
  have HL := Lib.hid hl
  have HB0 := Lib.hid ((Below.refl w.heap.size w).alloc (Nat.le_refl _) (.cells CS 23))
  have HG0 := Lib.hid (World.alloc_heap_new w (.cells CS 23))
  have HS := Lib.hid hS
  have HZ := Lib.hid hz
  have HB := Lib.hid hB
  have HCS := Lib.hid hCS
  have HSL := Lib.hid hs
  have h1 := hS.le
  have h2 := hS.cap
  simp only [intsV_length] at h1
  unfold maxLen at h2
  clear hS hz hB hl hCS
  go_enter Tryd.func3, Tryd.ntmps3
  go_wp2_with fail
  refine (alive4_any _).mono ?_; rintro e w1 ⟨rfl, hb⟩
  have HB1 := Lib.hid (Kit.step HB0.out hb)
  have HG1 : Hid (w1.heap[w.heap.size]? = some (.cells CS 23 (0, 0))) := Lib.hid (by rw [hb.block w.heap.size (by simp)]; exact HG0.out)
  clear hb HG0
  go_wp2_with fail
  refine (ints_any z o c w1 (HS.out.later HB1.out) (by have := HL.out; omega)).mono ?_; rintro e w2 ⟨B, rfl, hb, _, hM⟩
  have HB2 := Lib.hid (Kit.step HB1.out hb)
  have HM2 := Lib.hid hM
  have HG2 : Hid (w2.heap[w.heap.size]? = some (.cells CS 23 (0, 0))) := Lib.hid (by rw [hb.block w.heap.size (Array.getElem?_eq_some_iff.1 HG1.out).1]; exact HG1.out)
  clear hb hM HG1
  have HLEN := Lib.hid (loc_len m z)
  have HTR := Lib.hid (loc_tr m z)
  have HCO := Lib.hid (HB.out.code w2 _ _ (HM2.out.row (by have := HL.out; omega)))
  have HRE : Hid (∀ v, RowIs v o (intsV z) c → _) := Lib.hid (fun v hv => HB.out.ref v o c hv)
  obtain ⟨G, hG⟩ : ∃ G, Gf.locL (xsL m z) = G := ⟨_, rfl⟩
  rw [hG] at HLEN HTR HCO
  simp only [hG] at HRE
  clear hG
  go_wp2_with fail
  refine HCO.out.mono ?_; rintro e w3 ⟨x1, rfl, hx1, hb⟩
  have HB3 := Lib.hid (Kit.step HB2.out hb)
  have HM3 := Lib.hid (HM2.out.later hb)
  have HX3 := Lib.hid hx1
  have HG3 : Hid (w3.heap[w.heap.size]? = some (.cells CS 23 (0, 0))) := Lib.hid (by rw [hb.block w.heap.size (Array.getElem?_eq_some_iff.1 HG2.out).1]; exact HG2.out)
  clear hb hx1 HM2 HG2 HCO
  go_wp2_with fail
  refine (HRE.out w3 (HS.out.later HB3.out)).mono ?_; rintro e w4 ⟨x2, rfl, hx2, hb⟩
  have HB4 := Lib.hid (Kit.step HB3.out hb)
  have HM4 := Lib.hid (HM3.out.later hb)
  have HX4 := Lib.hid (HX3.out.later hb)
  have HY4 := Lib.hid hx2
  have HG4 : Hid (w4.heap[w.heap.size]? = some (.cells CS 23 (0, 0))) := Lib.hid (by rw [hb.block w.heap.size (Array.getElem?_eq_some_iff.1 HG3.out).1]; exact HG3.out)
  have k1 := conv_rv HX4.out
  have k2 := conv_rv HY4.out
  obtain ⟨SR, hSR⟩ : ∃ q : ByteArray, (⟨G.toArray⟩ : ByteArray) = q := ⟨_, rfl⟩
  rw [hSR] at k1 k2
  obtain ⟨o1, c1, rfl, _⟩ := HX4.out
  obtain ⟨o2, c2, rfl, _⟩ := HY4.out
  have HKI := Lib.hid (kept_ints z B o c w4 HM4.out (HS.out.later HB4.out) (by have := HL.out; omega) HZ.out)
  clear hb hx2 HM3 HX3 HG3 hSR HRE
  go_wp2_with fail
  refine (Er.num_nil _).mono ?_; rintro e w' ⟨rfl, rfl⟩
  go_wp2_with fail
  refine HKI.out.mono ?_; rintro e w6 ⟨rfl, hd6⟩
  have HB6 := Lib.hid (Kit.step HB4.out hd6.below)
  have HX6 := Lib.hid (HX4.out.later hd6.below)
  have HY6 := Lib.hid (HY4.out.later hd6.below)
  have HG6 : Hid (w6.heap[w.heap.size]? = some (.cells CS 23 (0, 0))) := Lib.hid (by rw [hd6.below.block w.heap.size (Array.getElem?_eq_some_iff.1 HG4.out).1]; exact HG4.out)
  clear hd6 HKI k1 k2 HX4 HY4 HG4
  go_wp2_with fail
  have hx1 := HX6.out
  have hx2 := HY6.out
  have hS := HSL.out
  have hGl : G.length ≤ 10000 := by have := HLEN.out; have := HL.out; omega
  have hG1 : 1 ≤ (tr G).length := by rw [HTR.out]; have := HLEN.out; omega
  have hG2 : (tr G).length ≤ 33 := by rw [HTR.out]; have := HLEN.out; have := HB.out.ok.2.2; omega
  have hg5 : ∀ v, Below w6.heap.size w6 v → v.heap[w.heap.size]? = some (.cells (bytesV s).toArray 23 (0, 0)) := fun v hb => by rw [HCS.out, hb.block w.heap.size (Array.getElem?_eq_some_iff.1 HG6.out).1]; exact HG6.out
  obtain ⟨y1, hy1⟩ : ∃ y1 : Value, .slice o1 G.length c1 = y1 := ⟨_, rfl⟩
  obtain ⟨y2, hy2⟩ : ∃ y2 : Value, .slice o2 G.length c2 = y2 := ⟨_, rfl⟩
  rw [hy1] at hx1
  rw [hy2] at hx2
  rw [hy1, hy2]
  refine Rg.region_grow (by kernel_rfl) (LerG s G) (by kernel_rfl) LerG.later ?gd ?step ?fin
  case gd =>
    intro i op k t ho hg x v hG
    have hi := (Array.getElem?_eq_some_iff.1 ho).1
    match i, hi with
    | 0, _ =>
      obtain rfl := Option.some.inj ho
      cases hg
    | 1, _ =>
      obtain rfl := Option.some.inj ho
      cases hg
    | 2, _ =>
      obtain rfl := Option.some.inj ho
      cases hg
    | 3, _ =>
      obtain rfl := Option.some.inj ho
      obtain ⟨rfl, rfl⟩ : 2 = k ∧ false = t := by simpa using hg
      exact hG
    | 4, _ =>
      obtain rfl := Option.some.inj ho
      obtain ⟨rfl, rfl⟩ : 2 = k ∧ false = t := by simpa using hg
      exact hG
    | 5, _ =>
      obtain rfl := Option.some.inj ho
      obtain ⟨rfl, rfl⟩ : 2 = k ∧ false = t := by simpa using hg
      exact hG
    | 6, _ =>
      obtain rfl := Option.some.inj ho
      obtain ⟨rfl, rfl⟩ : 2 = k ∧ false = t := by simpa using hg
      exact hG
    | 7, _ =>
      obtain rfl := Option.some.inj ho
      obtain ⟨rfl, rfl⟩ : 2 = k ∧ false = t := by simpa using hg
      exact hG
    | 8, _ =>
      obtain rfl := Option.some.inj ho
      obtain ⟨rfl, rfl⟩ : 2 = k ∧ false = t := by simpa using hg
      exact hG
    | 9, _ =>
      obtain rfl := Option.some.inj ho
      obtain ⟨rfl, rfl⟩ : 2 = k ∧ false = t := by simpa using hg
      exact hG
    | 10, _ =>
      obtain rfl := Option.some.inj ho
      obtain ⟨rfl, rfl⟩ : 2 = k ∧ false = t := by simpa using hg
      exact hG
    | 11, _ =>
      obtain rfl := Option.some.inj ho
      obtain ⟨rfl, rfl⟩ : 2 = k ∧ false = t := by simpa using hg
      exact hG
    | 12, _ =>
      obtain rfl := Option.some.inj ho
      cases hg
    | 13, _ =>
      obtain rfl := Option.some.inj ho
      cases hg
    | n + 14, h => exact absurd h (by simp)
  case step =>
    intro i op b v ho hb hrest hdep
    have r11 : b.eval (.tmp 11) = .int .i64 0 := hrest 11 (Rg.free_spec (by kernel_rfl))
    have r5 : b.eval (.tmp 5) = .pointer (some ⟨w.heap.size, 0, none⟩) := hrest 5 (Rg.free_spec (by kernel_rfl))
    have r8 : b.eval (.tmp 8) = y1 := hrest 8 (Rg.free_spec (by kernel_rfl))
    have r10 : b.eval (.tmp 10) = y2 := hrest 10 (Rg.free_spec (by kernel_rfl))
    have hi := (Array.getElem?_eq_some_iff.1 ho).1
    match i, hi with
    | 0, _ =>
      obtain rfl := Option.some.inj ho
      have d1 : b.eval (.tmp 11) = .int .i64 0 := r11
      exact Rg.does_move rfl d1
    | 1, _ =>
      obtain rfl := Option.some.inj ho
      have d1 : (b.eval (.tmp 48)) = .int .i64 0 := hdep ⟨0, .data⟩ (by simp) rfl _ _ rfl rfl
      have f1 : b.tmps[48]?.getD undef = _ := (show _ = b.eval (.tmp 48) by simp [Act.eval]).trans d1
      refine Rg.does_pure (.bool false) ?_ rfl
      simp only [execOp]
      go_simp
    | 2, _ =>
      obtain rfl := Option.some.inj ho
      have d1 : (b.eval (.tmp 49)) = .bool false := hdep ⟨1, .data⟩ (by simp) rfl _ _ rfl rfl
      exact Rg.does_move rfl d1
    | 3, _ =>
      obtain rfl := Option.some.inj ho
      exact does_load_row4 rfl r5 (hg5 v hb) arr_under rfl (arr_size hS) rfl
    | 4, _ =>
      obtain rfl := Option.some.inj ho
      have d1 : RowV (G) (b.eval (.tmp 8)) v := by rw [r8]; exact hx1.later hb
      exact Rg.does_move rfl d1
    | 5, _ =>
      obtain rfl := Option.some.inj ho
      have d1 : (b.eval (.tmp 51)) = .agg (bytesV s).toArray := hdep ⟨3, .data⟩ (by simp) rfl _ _ rfl rfl
      have d2 : RowV (G) (b.eval (.tmp 52)) v := hdep ⟨4, .data⟩ (by simp) rfl _ _ rfl rfl
      exact Rg.does_fn rfl (enters_of Tryd.func14 (by kernel_rfl) rfl) (args := #[b.eval (.tmp 51), b.eval (.tmp 52)]) (by simp) (by obtain ⟨o9, c9, e9, h9⟩ := d2; rw [d1, e9]; exact cfor_any s G o9 c9 v hS h9 hGl hG1 hG2 _ rfl)
    | 6, _ =>
      obtain rfl := Option.some.inj ho
      have d1 : RowV (forL s G) (b.eval (.tmp 53)) v := hdep ⟨5, .data⟩ (by simp) rfl _ _ rfl rfl
      exact Rg.does_conv rfl (conv_rv d1) (rfl)
    | 7, _ =>
      obtain rfl := Option.some.inj ho
      exact does_load_row4 rfl r5 (hg5 v hb) arr_under rfl (arr_size hS) rfl
    | 8, _ =>
      obtain rfl := Option.some.inj ho
      have d1 : RowV (G) (b.eval (.tmp 10)) v := by rw [r10]; exact hx2.later hb
      exact Rg.does_move rfl d1
    | 9, _ =>
      obtain rfl := Option.some.inj ho
      have d1 : (b.eval (.tmp 55)) = .agg (bytesV s).toArray := hdep ⟨7, .data⟩ (by simp) rfl _ _ rfl rfl
      have d2 : RowV (G) (b.eval (.tmp 56)) v := hdep ⟨8, .data⟩ (by simp) rfl _ _ rfl rfl
      exact Rg.does_fn rfl (enters_of Tryd.func15 (by kernel_rfl) rfl) (args := #[b.eval (.tmp 55), b.eval (.tmp 56)]) (by simp) (by obtain ⟨o9, c9, e9, h9⟩ := d2; rw [d1, e9]; exact rfor_any s G o9 c9 v hS h9 hGl hG1 hG2 _ rfl)
    | 10, _ =>
      obtain rfl := Option.some.inj ho
      have d1 : RowV (forL s G) (b.eval (.tmp 57)) v := hdep ⟨9, .data⟩ (by simp) rfl _ _ rfl rfl
      exact Rg.does_conv rfl (conv_rv d1) (rfl)
    | 11, _ =>
      obtain rfl := Option.some.inj ho
      have d1 : (b.eval (.tmp 54)) = .string ⟨(forL s G).toArray⟩ := hdep ⟨6, .data⟩ (by simp) rfl _ _ rfl rfl
      have d2 : (b.eval (.tmp 58)) = .string ⟨(forL s G).toArray⟩ := hdep ⟨10, .data⟩ (by simp) rfl _ _ rfl rfl
      have f1 : b.tmps[54]?.getD undef = _ := (show _ = b.eval (.tmp 54) by simp [Act.eval]).trans d1
      have f2 : b.tmps[58]?.getD undef = _ := (show _ = b.eval (.tmp 58) by simp [Act.eval]).trans d2
      refine Rg.does_pure (.bool true) ?_ rfl
      have hu := Tryd.underlying9
      simp only [execOp]
      go_simp
    | 12, _ =>
      obtain rfl := Option.some.inj ho
      have d1 : (b.eval (.tmp 50)) = .bool false := hdep ⟨2, .data⟩ (by simp) rfl _ _ rfl rfl
      have d2 : (b.eval (.tmp 59)) = .bool true := hdep ⟨11, .data⟩ (by simp) rfl _ _ rfl rfl
      exact Rg.does_pick rfl d1 d2
    | 13, _ =>
      obtain rfl := Option.some.inj ho
      have d1 : (b.eval (.tmp 60)) = .bool true := hdep ⟨12, .data⟩ (by simp) rfl _ _ rfl rfl
      exact Rg.does_assign rfl d1
    | n + 14, h => exact absurd h (by simp)
  case fin =>
    intro b v2 hb2 hs hd hrest hall
    have h4 : b.tmps.getD 6 undef = .bool true := hall 13 _ 6 rfl rfl
    have HB := Lib.hid (Kit.step HB6.out hb2)
    go_wp2
    refine bodyPost_ret (results_tmp rfl _ _ _) hd ?_
    exact ⟨by rw [h4], HB.out⟩
theorem ler_walk (n : Int) (z : List Int) (s : List UInt8) (c : Nat) (o : Option Addr) (w : World) (A : Nat → Addr) (hs : s.length = 32) (hS : RowIs w o (intsV z) c) (hE : Er.Errs w A) (hz : ∀ p ∈ z, (Lit.int .i64 p).wf = true) :
    Calls Tryd.prog 3 #[.int .i64 n, .slice o z.length c, .agg (bytesV s).toArray] w fun e w' => e = .returned (.bool true) ∧ Below w.heap.size w w' := by
  have hz2 : ∀ k, k < z.length → -9223372036854775808 ≤ ci z k ∧ ci z k ≤ 9223372036854775807 := fun k hk => by
    have h1 : ci z k ∈ z := by
      unfold ci
      rw [List.getD_eq_getElem?_getD, List.getElem?_eq_getElem hk]
      exact List.getElem_mem hk
    exact i64_wf (hz _ h1)
  by_cases hl : 60 < z.length
  · have h1 := hS.le
    have h2 := hS.cap
    simp only [intsV_length] at h1
    unfold maxLen at h2
    exact ler_long n z _ c o w (arr_size hs) hl (by omega)
  · rcases er_both n z A (by omega) hz2 with ⟨a, ha⟩ | ⟨m, rfl, hm⟩
    · exact ler_bad n z _ c o w A a hS hE (by omega) hz2 ha
    · exact ler_good m z s c o w hs hS (by omega) hz2 hm _ rfl
end Go.Proofs.YtoefhhkemljjdaaDoor
