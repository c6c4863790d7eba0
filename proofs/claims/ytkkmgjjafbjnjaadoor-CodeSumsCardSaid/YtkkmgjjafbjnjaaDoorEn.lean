/- Whether a word is right; a word's data. slices.Concat of two rows; code words. -/
import Derived.Test.YtkkmgjjafbjnjaaDoorOf
import Derived.Test.YtkkmgjjafbjnjaaDoorPr
import Derived.Deep.QuietTactic
import Derived.BigQuiet
namespace Go.Proofs.YtkkmgjjafbjnjaaDoor
open Go.RowKit
set_option linter.unusedVariables false
set_option linter.unusedSimpArgs false
set_option maxRecDepth 100000 in
set_option maxHeartbeats 2000000 in
theorem right_of (Z S : Array Value) (B : Bool) (hzs : ∀ w, Sem.run Tryd.prog (zeroValue 35) w = .ok (.agg Z) w) (hZS : Z.size = S.size) (hS1 : S.all (·.oneCell') = true) (hS2 : (Tryd.prog.info? 35).map (·.size) = some S.size)
    (m c : Nat) (o : Option Addr) (w : World) (hof : Calls Tryd.prog 16 #[.slice o m c] w fun e w' => e = .returned (.tuple #[.agg S, .nilIface]) ∧ Below w.heap.size w w')
    (hq : ∀ w, Calls Tryd.prog 19 #[.agg S] w fun e w' => e = .returned (.bool B) ∧ Below w.heap.size w w') :
    Calls Tryd.prog 15 #[.slice o m c] w fun e w' => e = .returned (.bool B) ∧ Below w.heap.size w w' := by
  have HOF := Lib.hid hof
  have HQ := Lib.hid hq
  have HS2 := Lib.hid hS2
  have HZS := Lib.hid hZS
  have HS1 := Lib.hid hS1
  clear hof hq hS2 hZS hS1
  go_enter Tryd.func15, Tryd.ntmps15
  go_wp2_with fail
  refine HOF.out.mono ?_; rintro e w1 ⟨rfl, hb⟩
  have HB := Lib.hid hb
  have HG : Hid ((w1.alloc (.cells Z 35)).heap[w1.heap.size]? = some (.cells Z 35 (0, 0))) := Lib.hid (World.alloc_heap_new _ _)
  have HGW : Hid (((w1.alloc (.cells Z 35)).setRow w1.heap.size S).heap[w1.heap.size]? = some (.cells S 35 (0, 0))) := Lib.hid (setRow_heap _ _ _ _ _ _ HG.out)
  have HBW : Hid (Below w.heap.size w ((w1.alloc (.cells Z 35)).setRow w1.heap.size S)) := Lib.hid ((hb.alloc hb.size _).trans (below_setRow hb.size))
  clear hb HOF
  go_wp2_with (first | refine wpList_store_row rfl 35 (.tmp 3) (.tmp 8) rfl w1.heap.size S rfl rfl 35 Z HG.out HS2.out HZS.out HS1.out ?_ | refine BigFrame.wpList_want (by rfl) fun K hK => wp_load_row 35 (.tmp 3) rfl w1.heap.size rfl 35 S (0, 0) _ HGW.out csyn_under rfl HS2.out (hK _ _ ?_))
  refine (HQ.out _).mono ?_; rintro e w3 ⟨rfl, hb⟩
  have HB3 := Lib.hid (Kit.step HBW.out hb)
  clear hb
  go_wp2_with fail
  go_ret
  exact ⟨rfl, HB3.out⟩
theorem right_any (z : List UInt8) (o : Option Addr) (c : Nat) (w : World) (hP : RowIs w o (bytesV z) c) (h33 : 33 ≤ z.length ∧ z.length ≤ 255) :
    Calls Tryd.prog 15 #[.slice o z.length c] w fun e w' => e = .returned (.bool (synL z == zsyn)) ∧ Below w.heap.size w w' :=
  right_of _ _ _ czero_syn (by simp [zsyn, synL]) (one_cell (synL z)) (csyn_size (by simp [synL])) z.length c o w (of_any z o c w hP h33) (fun w => quiet_any (synL z) (by simp [synL]) w)
set_option maxRecDepth 100000 in
set_option maxHeartbeats 2000000 in
theorem right_size_of (Z : Array Value) (hzs : ∀ w, Sem.run Tryd.prog (zeroValue 35) w = .ok (.agg Z) w) (hS1 : Z.all (·.oneCell') = true) (hS2 : (Tryd.prog.info? 35).map (·.size) = some Z.size)
    (m c : Nat) (o : Option Addr) (w : World) (A : Nat → Addr) (hof : Calls Tryd.prog 16 #[.slice o m c] w fun e w' => e = .returned (.tuple #[.agg Z, .iface 92 (.pointer (some (A 7)))]) ∧ Below w.heap.size w w') :
    Calls Tryd.prog 15 #[.slice o m c] w fun e w' => e = .returned (.bool false) ∧ Below w.heap.size w w' := by
  have HOF := Lib.hid hof
  have HS2 := Lib.hid hS2
  have HS1 := Lib.hid hS1
  clear hof hS2 hS1
  go_enter Tryd.func15, Tryd.ntmps15
  go_wp2_with fail
  refine HOF.out.mono ?_; rintro e w1 ⟨rfl, hb⟩
  have HB := Lib.hid hb
  have HG : Hid ((w1.alloc (.cells Z 35)).heap[w1.heap.size]? = some (.cells Z 35 (0, 0))) := Lib.hid (World.alloc_heap_new _ _)
  have HBW : Hid (Below w.heap.size w ((w1.alloc (.cells Z 35)).setRow w1.heap.size Z)) := Lib.hid ((hb.alloc hb.size _).trans (below_setRow hb.size))
  clear hb HOF
  go_wp2_with (refine wpList_store_row rfl 35 (.tmp 3) (.tmp 8) rfl w1.heap.size Z rfl rfl 35 Z HG.out HS2.out rfl HS1.out ?_)
  go_ret
  exact ⟨rfl, HBW.out⟩
theorem right_size (m c : Nat) (o : Option Addr) (w : World) (A : Nat → Addr) (hE : Er.Errs w A) (h : ¬ (33 ≤ m ∧ m ≤ 255)) (hm : m ≤ 9223372036854775807) :
    Calls Tryd.prog 15 #[.slice o m c] w fun e w' => e = .returned (.bool false) ∧ Below w.heap.size w w' :=
  right_size_of _ czero_syn (one_cell zsyn) (csyn_size (by simp [zsyn])) m c o w A (of_size m c o w A hE h hm)
set_option maxRecDepth 100000 in
theorem data_any (z : List UInt8) (o : Option Addr) (c : Nat) (w : World) (hP : RowIs w o (bytesV z) c) (h33 : 33 ≤ z.length ∧ z.length ≤ 255) :
    Calls Tryd.prog 14 #[.slice o z.length c] w fun e w' => ∃ x, e = .returned (.tuple #[x, .nilIface]) ∧ RowV (z.take (z.length - 32)) x w' ∧ Below w.heap.size w w' := by
  have h1 := hP.le
  have h2 := hP.cap
  simp only [bytesV_length] at h1
  unfold maxLen at h2
  have F : Hid (∀ w, Calls Tryd.prog 34 #[.int .i64 (z.length : Int)] w fun e w' => e = .returned (.bool true) ∧ w' = w) := Lib.hid (fits_true z.length (by omega))
  have ht := hP.take (z.length - 32)
  obtain ⟨b, off, rfl, _, _⟩ := hP.cells (by simp; omega)
  obtain ⟨m, hm⟩ : ∃ m, z.length - 32 = m := ⟨_, rfl⟩
  have hmi : (z.length : Int) - 32 = (m : Int) := by omega
  rw [hm] at ht ⊢
  have htl : (z.take m).length = m := by rw [List.length_take]; omega
  have HT := Lib.hid ht
  have hml : m ≤ z.length := by omega
  have hm0 : 0 < m := by omega
  have HTL := Lib.hid htl
  have hzl := h33.2
  clear hP ht htl h33
  go_enter Tryd.func14, Tryd.ntmps14
  go_wp2_with fail
  refine (F.out _).mono ?_; rintro e w1 ⟨rfl, rfl⟩
  have hcl := clone_own (z.take m) _ c w1 HT.out (by rw [HTL.out]; exact hm0) (by rw [HTL.out]; omega)
  rw [HTL.out] at hcl
  have HCL := Lib.hid hcl
  clear hcl
  go_wp2_with fail
  trace_state
  refine HCL.out.mono ?_; rintro e w2 h
  obtain ⟨x, rfl, hr, hb⟩ := h.rows
  have HR := Lib.hid hr
  have HB := Lib.hid hb
  clear h hr hb HCL
  go_wp2_with fail
  go_ret2
  exact ⟨x, rfl, HR.out, HB.out⟩
set_option maxRecDepth 100000 in
theorem data_size (m c : Nat) (o : Option Addr) (w : World) (A : Nat → Addr) (hE : Er.Errs w A) (h : ¬ (33 ≤ m ∧ m ≤ 255)) (hm : m ≤ 9223372036854775807) :
    Calls Tryd.prog 14 #[.slice o m c] w fun e w' => e = .returned (.tuple #[.slice none 0 0, .iface 92 (.pointer (some (A 7)))]) ∧ Below w.heap.size w w' := by
  have hE1 := hE.c7
  have F : Hid (∀ w, Calls Tryd.prog 34 #[.int .i64 (m : Int)] w fun e w' => e = .returned (.bool false) ∧ w' = w) := Lib.hid (fits_false m (by omega))
  clear hE h
  go_enter Tryd.func14, Tryd.ntmps14
  go_wp2_with fail
  refine (F.out _).mono ?_; rintro e w1 ⟨rfl, rfl⟩
  go_wp2_with fail
  go_quiet (fail)
  go_wp2
  go_ret2
  exact ⟨rfl, ⟨rfl, rfl, rfl, Nat.le_refl _, fun _ _ => rfl⟩⟩
end Go.Proofs.YtkkmgjjafbjnjaaDoor
namespace Go.Proofs.YtkkmgjjafbjnjaaDoor
open Go.RowKit
set_option linter.unusedVariables false
set_option linter.unusedSimpArgs false
def CaAt (n m : Nat) (w : World) (s i : Value) (wr : World) : Prop :=
  wr = w ∧ ((i = .int .i64 0 ∧ s = .int .i64 0) ∨ (i = .int .i64 1 ∧ s = .int .i64 n) ∨ (i = .int .i64 2 ∧ s = .int .i64 ((n : Int) + m)))
def CbAt (d p : List UInt8) (w : World) (v i : Value) (wr : World) : Prop :=
  Below w.heap.size w wr ∧ ((i = .int .i64 0 ∧ wr.ownsRow w.heap.size 5 1 v 0 (bytesV [])) ∨ (i = .int .i64 1 ∧ wr.ownsRow w.heap.size 5 1 v d.length (bytesV d)) ∨ (i = .int .i64 2 ∧ wr.ownsRow w.heap.size 5 1 v (d.length + p.length) (bytesV (d ++ p))))
set_option maxRecDepth 100000 in
set_option maxHeartbeats 2000000 in
theorem concat_any (d p : List UInt8) (o1 o2 : Option Addr) (c1 c2 A : Nat) (w : World) (h1 : RowIs w o1 (bytesV d) c1) (h2 : RowIs w o2 (bytesV p) c2) (hl1 : d.length ≤ 1000) (hl2 : p.length ≤ 1000) (h0 : 0 < d.length + p.length)
    (hA0 : w.cell? ⟨A, 0, none⟩ = some (.slice o1 d.length c1)) (hA1 : w.cell? ⟨A, 1, none⟩ = some (.slice o2 p.length c2)) (hAl : A < w.heap.size) :
    Calls Tryd.prog 31 #[.slice (some ⟨A, 0, none⟩) 2 2] w (Rows (d ++ p) w) := by
  have H1 := Lib.hid h1
  have H2 := Lib.hid h2
  have HA0 := Lib.hid hA0
  have HA1 := Lib.hid hA1
  obtain ⟨n, hn⟩ : ∃ n, d.length = n := ⟨_, rfl⟩
  obtain ⟨m, hm⟩ : ∃ m, p.length = m := ⟨_, rfl⟩
  have HN := Lib.hid hn
  have HM := Lib.hid hm
  have hc1 := h1.cap
  have hc2 := h2.cap
  unfold maxLen at hc1 hc2
  rw [hn] at hA0 hl1 h0
  rw [hm] at hA1 hl2 h0
  clear h1 h2 hn hm
  go_enter Tryd.func31, Tryd.ntmps31
  go_wp2_with fail
  go_loopw [3, 5, 11] (fun s _ i wr => CaAt n m w s i wr) (fun _ _ i _ => 2 - (intOf i).toNat)
  case atStart => exact ⟨rfl, .inl ⟨rfl, rfl⟩⟩
  case round =>
    obtain ⟨rfl, ⟨rfl, rfl⟩ | ⟨rfl, rfl⟩ | ⟨rfl, rfl⟩⟩ := hrel
    · have hd : decide ((n : Int) < 0) = false := decide_eq_false (by omega)
      go_wp2_with fail
      go_roundw
      case rel => exact ⟨rfl, .inr (.inl ⟨by go_num, by go_num⟩)⟩
      case measure => simp [intOf]
    · have hd : decide ((n : Int) + m < 0) = false := decide_eq_false (by omega)
      go_wp2_with fail
      go_roundw
      case rel => exact ⟨rfl, .inr (.inr ⟨by go_num, by go_num⟩)⟩
      case measure => simp [intOf]
    · obtain ⟨N, hN⟩ : ∃ N : Nat, n + m = N := ⟨_, rfl⟩
      rw [show (n : Int) + m = (N : Int) by omega]
      have HG := Lib.hid (grow_nil N wr (by omega) (by omega))
      have HNN := Lib.hid hN
      clear hN
      go_wp2_with fail
      refine HG.out.mono ?_; rintro e w2 ⟨g, cap, rfl, hown, hb⟩
      have HV := Lib.hid hown
      have HB := Lib.hid hb
      clear hown hb HG
      go_wp2_with fail
      go_loopw [6, 8, 27] (fun v _ i wr2 => CbAt d p wr v i wr2) (fun _ _ i _ => 2 - (intOf i).toNat)
      case atStart => exact ⟨HB.out, .inl ⟨rfl, HV.out⟩⟩
      case round =>
        rename World => W3
        obtain ⟨hb3, h3⟩ := hrel
        have hA0' : W3.cell? ⟨A, 0, none⟩ = _ := (hb3.cell (p := ⟨A, 0, none⟩) hAl).trans hA0
        have hA1' : W3.cell? ⟨A, 1, none⟩ = _ := (hb3.cell (p := ⟨A, 1, none⟩) hAl).trans hA1
        have HB3 := Lib.hid hb3
        clear hb3 hA0 hA1
        rcases h3 with ⟨rfl, hv⟩ | ⟨rfl, hv⟩ | ⟨rfl, hv⟩
        · have HV3 := Lib.hid hv
          clear hv
          go_wp2_with (at_builtin; refine append_row rfl (.tmp 31) (.tmp 32) rfl wr.heap.size _ 0 [] rfl HV3.out o1 n c1 d rfl HN.out.symm (H1.out.later HB3.out) (by omega) HB3.out.size ?_)
          intro v' w4 hv hg
          have HV4 : Hid (w4.ownsRow wr.heap.size 5 1 v' d.length (bytesV d)) := Lib.hid (by rw [HN.out]; simpa using hv)
          have HB4 := Lib.hid (own_below (n := 0) HB3.out HV3.out hg)
          clear hv hg
          go_wp2_with fail
          go_roundw
          case rel => exact ⟨HB4.out, .inr (.inl ⟨by go_num, HV4.out⟩)⟩
          case measure => simp [intOf]
        · have HV3 : Hid (W3.ownsRow wr.heap.size 5 1 _ n (bytesV d)) := Lib.hid (by rw [← HN.out]; exact hv)
          clear hv
          go_wp2_with (at_builtin; refine append_row rfl (.tmp 31) (.tmp 32) rfl wr.heap.size _ n d rfl HV3.out o2 m c2 p rfl HM.out.symm (H2.out.later HB3.out) (by omega) HB3.out.size ?_)
          intro v' w4 hv hg
          have HV4 : Hid (w4.ownsRow wr.heap.size 5 1 v' (d.length + p.length) (bytesV (d ++ p))) := Lib.hid (by rw [HN.out, HM.out]; exact hv)
          have HB4 := Lib.hid (own_below (n := 0) HB3.out HV3.out hg)
          clear hv hg
          go_wp2_with fail
          go_roundw
          case rel => exact ⟨HB4.out, .inr (.inr ⟨by go_num, HV4.out⟩)⟩
          case measure => simp [intOf]
        · have HR := Lib.hid (owns_rv hv (by simp))
          clear hv
          go_wp2_with fail
          go_ret
          exact ⟨_, rfl, HR.out, HB3.out⟩
theorem encode_any (d : List UInt8) (o : Option Addr) (c : Nat) (w : World) (hP : RowIs w o (bytesV d) c) (hl1 : 1 ≤ d.length) (hl2 : d.length ≤ 223) :
    Calls Tryd.prog 10 #[.slice o d.length c] w fun e w' => ∃ r x, r.length = 32 ∧ IsCode (d ++ r) ∧ e = .returned (.tuple #[x, .nilIface]) ∧ RowV (d ++ r) x w' ∧ Below w.heap.size w w' := by
  have HP := Lib.hid hP
  have HPA := Lib.hid (cpar_any d o c w hP hl1 hl2)
  have h1 := hP.le
  have h2 := hP.cap
  simp only [bytesV_length] at h1
  unfold maxLen at h2
  clear hP
  go_enter Tryd.func10, Tryd.ntmps10
  go_wp2_with fail
  refine HPA.out.mono ?_; rintro e w1 ⟨r, x, hr, hc, rfl, hx, hb⟩
  obtain ⟨o2, c2, rfl, hx⟩ := hx
  have hHP := (HP.out.later hb)
  obtain ⟨w2, hw2⟩ : ∃ w2, w1.alloc (.cells #[.slice o d.length c, .slice o2 r.length c2] 22) = w2 := ⟨_, rfl⟩
  have hb2 : Below w1.heap.size w1 w2 := by rw [← hw2]; exact (Below.refl _ _).alloc (Nat.le_refl _) _
  have hh : w2.heap[w1.heap.size]? = some (.cells #[.slice o d.length c, .slice o2 r.length c2] 22 (0, 0)) := by rw [← hw2]; exact World.alloc_heap_new _ _
  have hcl := concat_any d r o o2 c c2 w1.heap.size w2 (hHP.later hb2) (hx.later hb2) (by omega) (by omega) (by omega) (by rw [cell_of_row _ _ _ _ _ _ hh]; rfl) (by rw [cell_of_row _ _ _ _ _ _ hh]; rfl) (Array.getElem?_eq_some_iff.1 hh).1
  rw [← hw2] at hcl
  have HCL := Lib.hid hcl
  have HB2 : Hid (Below w.heap.size w w2) := Lib.hid (Kit.step hb hb2)
  have HW2 := Lib.hid hw2
  have HC := Lib.hid hc
  have HR := Lib.hid hr
  have hc2 := hx.cap
  unfold maxLen at hc2
  have hrl : r.length ≤ 32 := by omega
  clear hcl hb2 hh hHP hx hb hw2 hc hr HPA
  go_wp2_with fail
  refine HCL.out.mono ?_; rintro e w3 ⟨y, rfl, hy, hb⟩
  rw [HW2.out] at hb
  have HY := Lib.hid hy
  have HB3 := Lib.hid (Kit.step HB2.out hb)
  clear hy hb HCL
  go_wp2_with fail
  go_ret2
  exact ⟨r, y, HR.out, HC.out, rfl, HY.out, HB3.out⟩
theorem encode_size (m c : Nat) (o : Option Addr) (w : World) (p : Addr) (hE : w.cell? ⟨0, 0, none⟩ = some (.iface 92 (.pointer (some p)))) (h : m < 1 ∨ 223 < m) (hm : m ≤ 9223372036854775807) :
    Calls Tryd.prog 10 #[.slice o m c] w fun e w' => e = .returned (.tuple #[.slice none 0 0, .iface 92 (.pointer (some p))]) ∧ Below w.heap.size w w' := by
  have HPA := Lib.hid (cpar_size m c o w p hE h hm)
  clear hE h
  go_enter Tryd.func10, Tryd.ntmps10
  go_wp2_with fail
  refine HPA.out.mono ?_; rintro e w1 ⟨rfl, hb⟩
  have HB := Lib.hid hb
  clear hb HPA
  go_wp2_with fail
  go_ret2
  exact ⟨rfl, HB.out⟩
end Go.Proofs.YtkkmgjjafbjnjaaDoor
