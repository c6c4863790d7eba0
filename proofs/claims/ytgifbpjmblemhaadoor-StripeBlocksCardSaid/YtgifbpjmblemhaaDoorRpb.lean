/- The document's padded file; SameLists. -/
import Derived.Test.YtgifbpjmblemhaaDoorBc
namespace Go.Proofs.YtgifbpjmblemhaaDoor
open Go.RowKit
set_option linter.unusedVariables false
set_option linter.unusedSimpArgs false
theorem zero_row (w : World) : RowIs (w.alloc (.cells #[.int .u8 0] 5)) (some ⟨w.heap.size, 0, none⟩) (bytesV [0]) 1 :=
  row_cells (z := [0]) (World.alloc_heap_new w _) (by unfold maxLen; simp)
theorem byte_row (w : World) (x : UInt8) : RowIs (w.alloc (.cells #[.int .u8 (x.toNat : Int)] 5)) (some ⟨w.heap.size, 0, none⟩) (bytesV [x]) 1 :=
  row_cells (z := [x]) (World.alloc_heap_new w _) (by unfold maxLen; simp)
def slen (v : Value) : Nat := match v with
  | .slice _ l _ => l
  | _ => 0
def RpAt (f : List UInt8) (N : Nat) (w : World) (v : Value) (wr : World) : Prop :=
  ∃ d L : Nat, L = f.length + d ∧ L ≤ N ∧ wr.ownsRow w.heap.size 5 1 v L (bytesV (f ++ List.replicate d 0)) ∧ Below w.heap.size w wr
set_option maxRecDepth 100000 in
set_option maxHeartbeats 1000000 in
theorem rpad_any (f : List UInt8) (o : Option Addr) (c : Nat) (w : World) (hP : RowIs w o (bytesV f) c) (hl : f.length ≤ 100000) :
    Calls Tryd.prog 15 #[.slice o f.length c] w (Rows (padL f) w) := by
  have h1 := hP.le
  have h2 := hP.cap
  simp only [bytesV_length] at h1
  unfold maxLen at h2
  have hle := nbk_le f.length
  have hdef : nbk f.length = if f.length = 0 then 1 else (f.length + 7) / 8 := rfl
  obtain ⟨N, hN⟩ : ∃ N, 8 * nbk f.length = N := ⟨_, rfl⟩
  have HNP : Hid (padL f = f ++ List.replicate (N - f.length) 0) := Lib.hid (by rw [← hN]; rfl)
  have hN1 : f.length ≤ N := by omega
  have HMIN : Hid (∀ L, f.length ≤ L → L < N → L = 0 ∨ (L ≠ 0 ∧ L % 8 ≠ 0)) := Lib.hid fun L h1 h2 => by
    rw [hdef] at hN
    split at hN <;> omega
  have HMUL : Hid (N % 8 = 0 ∧ N ≠ 0) := Lib.hid (by
    have := nbk_pos f.length
    omega)
  have hNb : N ≤ 200000 := by
    rw [hdef] at hN
    split at hN <;> omega
  obtain ⟨w1, hw1⟩ : ∃ w1, w.alloc (.cells #[] 5) = w1 := ⟨_, rfl⟩
  have HO1 : Hid (w1.ownsRow w.heap.size 5 1 (.slice (some ⟨w.heap.size, 0, none⟩) 0 0) 0 (bytesV [])) := Lib.hid (by rw [← hw1]; exact World.ownsRow_lit w #[] 0 (Nat.le_refl _) (Nat.zero_le _) rfl)
  have hb1 : Below w.heap.size w w1 := by rw [← hw1]; exact below_new _ _
  have HB1 := Lib.hid hb1
  have HP1 := Lib.hid (hP.later hb1)
  have HW1 := Lib.hid hw1
  clear hP hle hdef hN hb1 hw1
  go_enter Tryd.func15, Tryd.ntmps15
  go_wp2_with (first | rw [HW1.out] | (at_builtin; refine append_row rfl (.tmp 4) (.tmp 5) rfl w.heap.size _ 0 [] rfl HO1.out o f.length c f rfl rfl HP1.out (by omega) HB1.out.size ?_))
  intro v2 w2 hv hg
  have HV : Hid (w2.ownsRow w.heap.size 5 1 v2 f.length (bytesV (f ++ List.replicate 0 0))) := Lib.hid (by simpa using hv)
  have HB2 := Lib.hid (own_below (n := 0) HB1.out HO1.out hg)
  clear hv hg
  go_wp2_with fail
  go_loopw [3] (fun v wr => RpAt f N w v wr) (fun v _ => N - slen v)
  case atStart => exact ⟨0, f.length, rfl, hN1, HV.out, HB2.out⟩
  case round =>
    obtain ⟨d, L, hL, hLN, hv, hb⟩ := hrel
    have HV2 := Lib.hid hv
    have HB := Lib.hid hb
    have HL := Lib.hid hL
    obtain ⟨ov, cv, rfl, _⟩ := owns_is hv (by simp [bytesV]; omega)
    have hL2 : f.length ≤ L := by omega
    clear hv hb hL
    by_cases hlt : L < N
    · have hcase := HMIN.out L hL2 hlt
      obtain ⟨w3, hw3⟩ : ∃ w3, wr.alloc (.cells #[.int .u8 0] 5) = w3 := ⟨_, rfl⟩
      have HO3 : Hid (w3.ownsRow w.heap.size 5 1 _ L (bytesV (f ++ List.replicate d 0))) := Lib.hid (by rw [← hw3]; exact World.ownsRow.alloc HV2.out _)
      have HZ3 : Hid (RowIs w3 (some ⟨wr.heap.size, 0, none⟩) (bytesV [0]) 1) := Lib.hid (by rw [← hw3]; exact zero_row wr)
      have HB3 : Hid (Below w.heap.size w w3) := Lib.hid (by rw [← hw3]; exact HB.out.alloc HB.out.size _)
      have HW3 := Lib.hid hw3
      clear hw3
      rcases hcase with h0 | ⟨h0, h8⟩
      · subst h0
        go_wp2_with (first | rw [HW3.out] | (at_builtin; refine append_row rfl (.tmp 16) (.tmp 17) rfl w.heap.size _ 0 (f ++ List.replicate d 0) rfl HO3.out _ 1 1 [0] rfl rfl HZ3.out (by omega) HB3.out.size ?_))
        intro v' w4 hv hg
        have HV4 : Hid (w4.ownsRow w.heap.size 5 1 v' (0 + 1) (bytesV (f ++ List.replicate (d + 1) 0))) := Lib.hid (by
          rw [List.replicate_succ']; exact hv)
        have HB4 := Lib.hid (own_below (n := 0) HB3.out HO3.out hg)
        obtain ⟨ov', cv', rfl, _⟩ := owns_is HV4.out (by simp [bytesV]; have := HL.out; omega)
        clear hv hg
        go_wp2_with fail
        go_roundw
        case rel => exact ⟨d + 1, 0 + 1, by have := HL.out; omega, by omega, HV4.out, HB4.out⟩
        case measure => simp [slen]; omega
      · have hd1 : ((L : Int) == 0) = false := beq_false_of_ne (by omega)
        have hd2 : decide ((L : Int) = 0) = false := decide_eq_false (by omega)
        have hd3 : ((L : Int) % 8 == 0) = false := beq_false_of_ne (by omega)
        have hd4 : ((L : Int) % 8 != 0) = true := by rw [bne_iff_ne]; omega
        have hd5 : ¬ L = 0 := h0
        have hd6 : ¬ L % 8 = 0 := h8
        go_wp2_with (first | rw [HW3.out] | (at_builtin; refine append_row rfl (.tmp 16) (.tmp 17) rfl w.heap.size _ L (f ++ List.replicate d 0) rfl HO3.out _ 1 1 [0] rfl rfl HZ3.out (by omega) HB3.out.size ?_))
        intro v' w4 hv hg
        have HV4 : Hid (w4.ownsRow w.heap.size 5 1 v' (L + 1) (bytesV (f ++ List.replicate (d + 1) 0))) := Lib.hid (by
          rw [List.replicate_succ']; exact hv)
        have HB4 := Lib.hid (own_below (n := 0) HB3.out HO3.out hg)
        obtain ⟨ov', cv', rfl, _⟩ := owns_is HV4.out (by simp [bytesV]; have := HL.out; omega)
        clear hv hg
        go_wp2_with fail
        go_roundw
        case rel => exact ⟨d + 1, L + 1, by have := HL.out; omega, by omega, HV4.out, HB4.out⟩
        case measure => simp [slen]; omega
    · have hLN2 : L = N := by omega
      subst hLN2
      have h8 := HMUL.out.1
      have h0 := HMUL.out.2
      have hd1 : ((L : Int) == 0) = false := beq_false_of_ne (by omega)
      have hd2 : decide ((L : Int) = 0) = false := decide_eq_false (by omega)
      have hd3 : ((L : Int) % 8 == 0) = true := by rw [beq_iff_eq]; omega
      have hd4 : ((L : Int) % 8 != 0) = false := by
        have : ((L : Int) % 8) = 0 := by omega
        rw [this]; rfl
      have hd7 : (L : Int) % 8 = 0 := by omega
      have HR : Hid (RowV (padL f) (.slice ov L cv) wr) := Lib.hid (by
        have e : List.replicate (L - f.length) (0 : UInt8) = List.replicate d 0 := by congr 1; have := HL.out; omega
        rw [HNP.out, e]
        exact owns_rv HV2.out (by simp; exact HL.out))
      clear h8 hlt
      go_wp2_with fail
      go_ret
      exact ⟨_, rfl, HR.out, HB.out⟩
def SlAt (n : Nat) (w : World) (iv : Value) (wr : World) : Prop := ∃ k : Nat, k ≤ n ∧ iv = .int .i64 k ∧ Kit.Dn w wr
set_option maxRecDepth 100000 in
set_option maxHeartbeats 1000000 in
theorem same_lists (bs : List (List UInt8)) (o o2 : Option Addr) (n c c2 : Nat) (w : World) (h1 : RbIs w o bs c) (h2 : RbIs w o2 bs c2) (hn : bs.length = n) :
    Calls Tryd.prog 13 #[.slice o n c, .slice o2 n c2] w fun e w' => e = .returned (.bool true) ∧ Kit.Dn w w' := by
  have ha := h1.le.1
  have hb := h1.le.2
  have hc := h2.le.1
  have hd := h2.le.2
  rw [hn] at ha hc
  unfold maxLen at hb hd
  have H1 := Lib.hid h1
  have H2 := Lib.hid h2
  have HN := Lib.hid hn
  clear h1 h2 hn
  go_enter Tryd.func13, Tryd.ntmps13
  go_wp2_with fail
  go_loopw [5, 13] (fun _ iv wr => SlAt n w iv wr) (fun _ iv _ => n - (intOf iv).toNat)
  case atStart => exact ⟨0, Nat.zero_le _, rfl, Kit.Dn.refl _⟩
  case round =>
    obtain ⟨k, hk, rfl, hdn⟩ := hrel
    have HD := Lib.hid hdn
    by_cases hlt : k < n
    · obtain ⟨b1, off1, p1, q1, rfl, _, hc1, hr1⟩ := (H1.out.later hdn.below).cell k (by have := HN.out; omega)
      obtain ⟨b2, off2, p2, q2, rfl, _, hc2, hr2⟩ := (H2.out.later hdn.below).cell k (by have := HN.out; omega)
      have k1 : ∀ nq, (convert 22 9 (.slice p1 (bi bs k).length q1)).run Tryd.prog (wr.drewN nq) = .ok (.string ⟨(bi bs k).toArray⟩) (wr.drewN nq) := fun nq =>
        run_string (hr1.later (Kit.dn' wr nq)) Tryd.underlying22 Tryd.underlying5 Tryd.underlying9 _
      have k2 : ∀ nq, (convert 22 9 (.slice p2 (bi bs k).length q2)).run Tryd.prog (wr.drewN nq) = .ok (.string ⟨(bi bs k).toArray⟩) (wr.drewN nq) := fun nq =>
        run_string (hr2.later (Kit.dn' wr nq)) Tryd.underlying22 Tryd.underlying5 Tryd.underlying9 _
      have hk0 : (0 : Int) ≤ (k : Int) := by omega
      have hk1 : (k : Int) < (n : Int) := by omega
      generalize (bi bs k).length = L at *
      generalize (⟨(bi bs k).toArray⟩ : ByteArray) = s at *
      clear hr1 hr2 hdn
      go_wp2_with fail
      go_quiet (fail)
      go_wp2_with fail
      go_roundw
      case rel => exact ⟨k + 1, by omega, by go_num, HD.out.add _⟩
      case measure => simp [intOf]; omega
    · obtain rfl : k = n := by omega
      clear hdn
      go_wp2_with fail
      go_ret
      exact ⟨rfl, HD.out⟩
end Go.Proofs.YtgifbpjmblemhaaDoor
