/- Contracts of the document's answers for polynomials, by definition: At, Trim, Eval. -/
import Derived.Test.YthbmbobjalgafaaDoorAp
import Derived.Test.YthbmbobjalgafaaDoorRfMul
namespace Go.Proofs.YthbmbobjalgafaaDoor
open Go.RowKit
set_option linter.unusedVariables false
set_option linter.unusedSimpArgs false
theorem at_any (p : List UInt8) (i : Nat) (o : Option Addr) (c : Nat) (w : World) (hP : RowIs w o (bytesV p) c) (hi : i ≤ 1000000) :
    Calls Tryd.prog 23 #[.slice o p.length c, .int .i64 (i : Int)] w fun e w' => e = .returned (.int .u8 ((co p i).toNat : Int)) ∧ w' = w := by
  have h1 := hP.le
  have h2 := hP.cap
  simp only [bytesV_length] at h1
  unfold maxLen at h2
  by_cases hlt : i < p.length
  · obtain ⟨b1, off1, rfl, hb1, hcell⟩ := hP.cells (by simp; omega)
    have hc1 : w.cell? ⟨b1, off1 + i, none⟩ = some (.int .u8 ((co p i).toNat : Int)) := hcell i _ (bytesV_get p i hlt)
    have hx := UInt8.toNat_lt (co p i)
    clear hcell hP
    generalize co p i = x at *
    go_enter Tryd.func23, Tryd.ntmps23
    go_wp2
    go_ret
    exact ⟨rfl, rfl⟩
  · have e : co p i = 0 := co_ge (by omega)
    rw [e]
    clear hP e
    go_enter Tryd.func23, Tryd.ntmps23
    go_wp2
    go_ret
    exact ⟨rfl, rfl⟩
def RtAt (p : List UInt8) (n : Value) : Prop := ∃ k : Nat, k ≤ p.length ∧ tl p p.length = tl p k ∧ n = .int .i64 k
theorem rtrim_any (p : List UInt8) (o : Option Addr) (c : Nat) (w : World) (hP : RowIs w o (bytesV p) c) (hl : p.length ≤ 1000000) :
    Calls Tryd.prog 7 #[.slice o p.length c] w (Rows (tr p) w) := by
  have h1 := hP.le
  have h2 := hP.cap
  simp only [bytesV_length] at h1
  unfold maxLen at h2
  have HP := Lib.hid hP
  clear hP
  have hb0 : Below w.heap.size w (w.alloc (.cells #[] 5)) := (Below.refl _ _).alloc (Nat.le_refl _) _
  have hown : (w.alloc (.cells #[] 5)).ownsRow w.heap.size 5 1 (.slice (some ⟨w.heap.size, 0, none⟩) 0 0) 0 (bytesV []) := World.ownsRow_lit w #[] 0 (Nat.le_refl _) (Nat.zero_le _) rfl
  have HB0 := Lib.hid hb0
  have HOWN := Lib.hid hown
  have HR0 := Lib.hid ((HP.out.later hb0).take (tl p p.length))
  have htl := tl_le p p.length
  have HLEN := Lib.hid (tr_length p)
  clear hb0 hown
  go_enter Tryd.func7, Tryd.ntmps7
  go_wp2_with fail
  go_loop [3] (fun n => RtAt p n) (fun n => (intOf n).toNat)
  case atStart => exact ⟨p.length, Nat.le_refl _, rfl, rfl⟩
  case round =>
    obtain ⟨k, hk, ht, rfl⟩ := hrel
    cases k with
    | zero =>
      have ht2 : tl p p.length = 0 := ht
      obtain ⟨m, hm⟩ : ∃ m, tl p p.length = m := ⟨_, rfl⟩
      have HR1 : Hid (RowIs (w.alloc (.cells #[] 5)) o (bytesV (tr p)) c) := HR0
      have HL0 : Hid ((tr p).length = 0) := Lib.hid (by rw [HLEN.out, ht2])
      clear ht ht2 hm htl
      go_wp2_with (at_builtin; refine append_row rfl (.tmp 18) (.tmp 21) rfl w.heap.size _ 0 [] rfl HOWN.out o 0 c (tr p) rfl HL0.out.symm HR1.out (by omega) HB0.out.size ?_)
      intro v' w' hv hg
      have hb := own_below (n := 0) HB0.out HOWN.out hg
      have hr := owns_rv hv HL0.out.symm
      go_wp2
      go_ret
      exact ⟨v', rfl, by simpa using hr, hb⟩
    | succ k =>
      obtain ⟨b1, off1, rfl, hb1, hcell⟩ := HP.out.cells (by simp; omega)
      have hc1 : w.cell? ⟨b1, off1 + k, none⟩ = some (.int .u8 ((co p k).toNat : Int)) := hcell k _ (bytesV_get p k (by omega))
      have hx := UInt8.toNat_lt (co p k)
      clear hcell
      by_cases h0 : co p k = 0
      · rw [h0] at hc1
        have ht2 : tl p p.length = tl p k := by rw [ht, tl, if_pos h0]
        have HT := Lib.hid ht2
        clear ht ht2
        go_wp2
        go_round
        case rel => exact ⟨k, by omega, HT.out, by go_num⟩
        case measure => simp [intOf]
      · have h00 : ¬ (co p k).toNat = 0 := fun e => h0 (Gf.u8_ext e)
        have ht2 : tl p p.length = k + 1 := by rw [ht, tl, if_neg h0]
        have HR1 : Hid (RowIs (w.alloc (.cells #[] 5)) (some ⟨b1, off1, none⟩) (bytesV (tr p)) c) := HR0
        have HL0 : Hid ((tr p).length = k + 1) := Lib.hid (by rw [HLEN.out, ht2])
        clear ht ht2 htl
        generalize co p k = x at *
        go_wp2_with (at_builtin; refine append_row rfl (.tmp 18) (.tmp 21) rfl w.heap.size _ 0 [] rfl HOWN.out _ (k + 1) c (tr p) rfl HL0.out.symm HR1.out (by omega) HB0.out.size ?_)
        intro v' w' hv hg
        have hb := own_below (n := 0) HB0.out HOWN.out hg
        have hr := owns_rv hv HL0.out.symm
        go_wp2
        go_ret
        exact ⟨v', rfl, by simpa using hr, hb⟩
end Go.Proofs.YthbmbobjalgafaaDoor
