/- The document's forney syndromes. -/
import Derived.Test.YtoefhhkemljjdaaDoorRr
import Derived.Test.YtoefhhkemljjdaaDoorGf
namespace Go.Proofs.YtoefhhkemljjdaaDoor
open Go.RowKit
set_option linter.unusedVariables false
set_option linter.unusedSimpArgs false
theorem row_cells_at {X : World} {A : Nat} {t : TypeId} {z : List UInt8} (h : X.heap[A]? = some (.cells (bytesV z).toArray t (0, 0))) (hm : z.length ≤ maxLen) : RowIs X (some ⟨A, 0, none⟩) (bytesV z) z.length :=
  ⟨by simp, hm, (fun e => by cases e), fun h0 => ⟨A, 0, rfl, (Array.getElem?_eq_some_iff.1 h).1, fun i v hv => by
    rw [Nat.zero_add]
    simp only [World.cell?, h]
    simpa using hv⟩⟩
/-- the coefficients from that of x to the power e on, up to the power 31 -/
def forL (s g : List UInt8) : List UInt8 := tab (fun i => co (mulL s g) ((tr g).length - 1 + i)) (32 - ((tr g).length - 1))
def FoAt (P : List UInt8) (e : Nat) (w : World) (v iv : Value) (wr : World) : Prop :=
  ∃ k : Nat, e + k ≤ 32 ∧ iv = .int .i64 ((e + k : Nat) : Int) ∧ wr.ownsRow w.heap.size 5 1 v k (bytesV (tab (fun i => co P (e + i)) k)) ∧ Below w.heap.size w wr
set_option maxRecDepth 100000 in
set_option maxHeartbeats 2000000 in
theorem rfor_any (s g : List UInt8) (o : Option Addr) (c : Nat) (w : World) (hs : s.length = 32) (hG : RowIs w o (bytesV g) c) (hl : g.length ≤ 10000) (h0 : 1 ≤ (tr g).length) (he : (tr g).length ≤ 33) (C : Array Value) (hC : (bytesV s).toArray = C) :
    Calls Tryd.prog 15 #[.agg C, .slice o g.length c] w (Rows (forL s g) w) := by
  have h3 := hG.le
  have h4 := hG.cap
  simp only [bytesV_length] at h3
  unfold maxLen at h4
  have HG := Lib.hid hG
  have HC := Lib.hid hC
  clear hG hC
  go_enter Tryd.func15, Tryd.ntmps15
  obtain ⟨w1, hw1⟩ : ∃ w1, w.alloc (.cells C 23) = w1 := ⟨_, rfl⟩
  have hb1 : Below w.heap.size w w1 := by rw [← hw1]; exact (Below.refl _ _).alloc (Nat.le_refl _) _
  have hS1 : RowIs w1 (some ⟨w.heap.size, 0, none⟩) (bytesV s) 32 := by
    rw [← hw1, ← HC.out, ← hs]
    exact row_cells_at (World.alloc_heap_new w (.cells (bytesV s).toArray 23)) (by unfold maxLen; omega)
  have HB1 := Lib.hid hb1
  have HS1 := Lib.hid hS1
  have HW1 := Lib.hid hw1
  have hrt := rtrim_any g o c _ (HG.out.later hb1) (by omega)
  rw [← hw1] at hrt
  have HRT := Lib.hid hrt
  clear hb1 hS1 hw1 hrt
  go_wp2_with fail
  refine HRT.out.mono ?_; rintro e w2 ⟨x, rfl, hx, hb⟩
  rw [HW1.out] at hb
  obtain ⟨o5, c5, rfl, _⟩ := hx
  obtain ⟨E, hE⟩ : ∃ E, (tr g).length = E + 1 := ⟨(tr g).length - 1, by omega⟩
  rw [hE]
  have hE32 : E ≤ 32 := by omega
  have HB2 := Lib.hid (Kit.step HB1.out hb)
  have HS2 := Lib.hid (HS1.out.later hb)
  have HGO : Hid (forL s g = tab (fun i => co (mulL s g) (E + i)) (32 - E)) := Lib.hid (by unfold forL; rw [hE, Nat.add_sub_cancel])
  have hm := rmulp_any s g _ o 32 c w2 HS2.out (HG.out.later HB2.out) (by omega)
  rw [hs] at hm
  have HM := Lib.hid hm
  clear hb hm HRT HW1 h0 he
  go_wp2_with fail
  refine HM.out.mono ?_; rintro e w3 ⟨x, rfl, hx, hb⟩
  obtain ⟨o6, c6, rfl, hx⟩ := hx
  have hPl : (tr (mulL s g)).length ≤ 10032 := by
    have h5 := tr_le (mulL s g)
    have h6 : (mulL s g).length = s.length + g.length := by simp [mulL]
    omega
  have hAT : ∀ (j : Nat) (v : World), j ≤ 32 → Below w3.heap.size w3 v → Calls Tryd.prog 41 #[.slice o6 (tr (mulL s g)).length c6, .int .i64 (j : Int)] v fun e w' => e = .returned (.int .u8 ((co (mulL s g) j).toNat : Int)) ∧ w' = v := fun j v hj hv => by
    have := at_any (tr (mulL s g)) j o6 c6 v (hx.later hv) (by omega)
    rwa [co_tr] at this
  have HAT := Lib.hid hAT
  have HB3 := Lib.hid (Kit.step HB2.out hb)
  have HBE : Hid (Below w3.heap.size w3 (w3.alloc (.cells #[] 5))) := Lib.hid ((Below.refl _ _).alloc (Nat.le_refl _) _)
  have HOWN : Hid ((w3.alloc (.cells #[] 5)).ownsRow w3.heap.size 5 1 (.slice (some ⟨w3.heap.size, 0, none⟩) 0 0) 0 (bytesV (tab (fun i => co (mulL s g) (E + i)) 0))) := Lib.hid (World.ownsRow_lit w3 #[] 0 (Nat.le_refl _) (Nat.zero_le _) rfl)
  generalize mulL s g = P at *
  clear hx hb HM hAT
  go_wp2_with fail
  go_loopw [7, 8] (fun v iv wr => FoAt P E w3 v iv wr) (fun _ iv _ => 32 - (intOf iv).toNat)
  case atStart => exact ⟨0, by omega, rfl, HOWN.out, HBE.out⟩
  case round =>
    obtain ⟨k, hk, rfl, hv, hb⟩ := hrel
    have HV := Lib.hid hv
    have HB := Lib.hid hb
    clear hv hb
    obtain ⟨j, hj⟩ : ∃ j, E + k = j := ⟨_, rfl⟩
    rw [hj]
    rw [hj] at hk
    have HJ := Lib.hid hj
    by_cases hlt : j < 32
    · have hd1 : decide ((j : Int) < 32) = true := decide_eq_true (by omega)
      have hk32 : k ≤ 32 := by omega
      have HAJ := Lib.hid (HAT.out j wr (by omega) HB.out)
      have HTS : Hid (tab (fun i => co P (E + i)) k ++ [co P j] = tab (fun i => co P (E + i)) (k + 1)) := Lib.hid (by rw [← hj]; exact tab_succ (fun i => co P (E + i)) k)
      clear hj
      generalize co P j = x at *
      have hxl := UInt8.toNat_lt x
      have HV2 := Lib.hid (World.ownsRow.alloc HV.out (.cells (bytesV [x]).toArray 5))
      have HB2' := Lib.hid (HB.out.alloc HB.out.size (.cells (bytesV [x]).toArray 5))
      go_wp2_with fail
      refine HAJ.out.mono ?_; rintro e w' ⟨rfl, rfl⟩
      go_wp2_with (at_builtin; refine append_row rfl (.tmp 24) (.tmp 28) rfl w3.heap.size _ k (tab (fun i => co P (E + i)) k) rfl HV2.out _ 1 1 [x] rfl rfl (row_cells (World.alloc_heap_new _ _) (by unfold maxLen; simp)) (by omega) HB2'.out.size ?_)
      intro v' w' hv hg
      rw [HTS.out] at hv
      have HV3 := Lib.hid hv
      have HB3' := Lib.hid (own_below (n := 0) HB2'.out HV2.out hg)
      clear hv hg
      go_wp2
      go_roundw
      case rel => exact ⟨k + 1, by have := HJ.out; omega, by have := HJ.out; go_num, HV3.out, HB3'.out⟩
      case measure => simp [intOf]; omega
    · obtain rfl : j = 32 := by omega
      obtain ⟨o3, c3, rfl, hr⟩ := owns_rv HV.out (by simp)
      have hke : k = 32 - E := by omega
      subst hke
      rw [← HGO.out] at hr
      have HR := Lib.hid hr
      clear hr
      go_wp2_with fail
      go_ret
      exact ⟨_, rfl, ⟨o3, c3, by rw [HGO.out]; rfl, HR.out⟩, Kit.step HB3.out HB.out⟩
end Go.Proofs.YtoefhhkemljjdaaDoor
