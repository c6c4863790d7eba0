/- Label's Key: the code's. -/
import Derived.Test.YtemngcifeglpmaaDoorLc
import Derived.Test.YtemngcifeglpmaaDoorErr
namespace Go.Proofs.YtemngcifeglpmaaDoor.Da
/-- the error's number -/
def kbad (m l r : Bool) : Nat := if m then (if l then (if r then 0 else 1) else 6) else 9
def abad (m r : Bool) : Nat := if m then (if r then 0 else 1) else 9
def kres (b : Nat) (x : List UInt8) : List UInt8 := if b = 0 then x else []
end Go.Proofs.YtemngcifeglpmaaDoor.Da
namespace Go.Proofs.YtemngcifeglpmaaDoor
open Go.RowKit
set_option linter.unusedVariables false
set_option linter.unusedSimpArgs false
/-- an error's number as an error -/
def errV (A : Nat → Addr) (b : Nat) : Value := if b = 0 then .nilIface else .iface 98 (.pointer (some (A (b - 1))))
namespace Er
/-- the sentinels of labels -/
structure E9 (W : World) (A : Nat → Addr) : Prop where
  c0 : W.cell? ⟨2, 0, none⟩ = some (.iface 98 (.pointer (some (A 0))))
  c5 : W.cell? ⟨1, 0, none⟩ = some (.iface 98 (.pointer (some (A 5))))
  c8 : W.cell? ⟨0, 0, none⟩ = some (.iface 98 (.pointer (some (A 8))))
theorem cell_lt9 {W : World} {g : Nat} {v : Value} (hc : W.cell? ⟨g, 0, none⟩ = some v) : g < W.heap.size := by
  unfold World.cell? at hc
  cases hh : W.heap[g]? with
  | none => simp [hh] at hc
  | some o => exact (Array.getElem?_eq_some_iff.1 hh).1
theorem cell_later {W W' : World} {g : Nat} {v : Value} (hc : W.cell? ⟨g, 0, none⟩ = some v) (hb : Below W.heap.size W W') : W'.cell? ⟨g, 0, none⟩ = some v := by
  have hlt : g < W.heap.size := by
    unfold World.cell? at hc
    cases hh : W.heap[g]? with
    | none => simp [hh] at hc
    | some o => exact (Array.getElem?_eq_some_iff.1 hh).1
  rw [hb.cell (p := ⟨g, 0, none⟩) hlt]; exact hc
theorem E9.later {W W' : World} {A : Nat → Addr} (h : E9 W A) (hb : Below W.heap.size W W') : E9 W' A := ⟨cell_later h.c0 hb, cell_later h.c5 hb, cell_later h.c8 hb⟩
theorem Errs.nine {W : World} {A : Nat → Addr} (h : Errs W A) : E9 W A := ⟨h.c0, h.c5, h.c8⟩
theorem num_any (A : Nat → Addr) (b : Nat) (hb : b ≤ 20) (w : World) (hE : Errs w A) :
    Calls Tryd.prog 9 #[errV A b] w fun e w' => e = .returned (.int .i64 (b : Int)) ∧ Below w.heap.size w w' := by
  unfold errV
  by_cases h : b = 0
  · subst h
    rw [if_pos rfl]
    refine (num_nil w).mono ?_
    rintro e w' ⟨rfl, rfl⟩
    exact ⟨rfl, Below.refl _ _⟩
  · rw [if_neg h]
    have := num_of A (b - 1) (by omega) w hE
    rw [show b - 1 + 1 = b by omega] at this
    exact this
end Er
theorem RowV.nil (w : World) : RowV [] (.slice none 0 0) w := ⟨none, 0, rfl, RowIs.empty none 0 (Nat.zero_le _) (fun _ => rfl)⟩
set_option maxRecDepth 100000 in
theorem lkey_any (k : List UInt8) (o : Option Addr) (c : Nat) (s : ByteArray) (n : Int) (A : Nat → Addr) (w : World) (hR : RowIs w o (bytesV k) c) (hV : Cds w) (hE : Er.E9 w A) (hl : k.length ≤ 900000) (hs : s.size ≤ 1000) :
    Calls Tryd.prog 7 #[.slice o k.length c, .string s, .int .i64 n] w fun e w' => ∃ x, e = .returned (.tuple #[x, errV A (Da.kbad (Da.isMas k.length) (Da.isLab s.data.toList) (Da.inR n))]) ∧
      RowV (Da.kres (Da.kbad (Da.isMas k.length) (Da.isLab s.data.toList) (Da.inR n)) (Da.keyL k s.data.toList n)) x w' ∧ Below w.heap.size w w' := by
  have KF := Lib.hid (keysof_any k o c n w hR hV hl)
  have LM := Lib.hid (lmas_any o k.length c w)
  have LL := Lib.hid (llab_any s (by omega) w)
  have LR := Lib.hid (lran_any n w)
  have hE0 := hE.c0
  have hE5 := hE.c5
  have hE8 := hE.c8
  have HV := Lib.hid hV
  obtain ⟨m, hm⟩ : ∃ m, Da.isMas k.length = m := ⟨_, rfl⟩
  obtain ⟨l, hll⟩ : ∃ l, Da.isLab s.data.toList = l := ⟨_, rfl⟩
  obtain ⟨r, hr⟩ : ∃ r, Da.inR n = r := ⟨_, rfl⟩
  rw [hm] at LM ⊢
  rw [hll] at LL ⊢
  rw [hr] at LR ⊢
  clear hR hV hE hm hll hr
  go_enter Tryd.func7, Tryd.ntmps7
  go_wp2_with fail
  refine LM.out.mono ?_
  rintro e w1 ⟨rfl, rfl⟩
  cases m with
  | false =>
    clear hE0 hE5
    go_wp2_with fail
    go_region
    go_wp2_with fail
    refine bodyPost_ret (results_tmp2 rfl _ _ _) rfl ?_
    exact ⟨.slice none 0 0, rfl, RowV.nil _, Kit.dn' _ 1⟩
  | true =>
    go_wp2_with fail
    refine LL.out.mono ?_
    rintro e w1 ⟨rfl, rfl⟩
    cases l with
    | false =>
      clear hE0 hE8
      go_wp2_with fail
      go_region
      go_wp2_with fail
      refine bodyPost_ret (results_tmp2 rfl _ _ _) rfl ?_
      exact ⟨.slice none 0 0, rfl, RowV.nil _, Kit.dn' _ 1⟩
    | true =>
      go_wp2_with fail
      refine LR.out.mono ?_
      rintro e w1 ⟨rfl, rfl⟩
      cases r with
      | false =>
        clear hE5 hE8
        go_wp2_with fail
        go_region
        go_wp2_with fail
        refine bodyPost_ret (results_tmp2 rfl _ _ _) rfl ?_
        exact ⟨.slice none 0 0, rfl, RowV.nil _, Kit.dn' _ 1⟩
      | true =>
        clear hE0 hE5 hE8
        go_wp2_with fail
        refine KF.out.mono ?_
        rintro e w1 ⟨b, rfl, hko, hb1⟩
        have HKO := Lib.hid hko
        have HB1 := Lib.hid hb1
        clear hko hb1 KF
        go_wp2_with fail
        refine (ko1_any k n b s hs w1 HKO.out (HV.out.later HB1.out)).mono ?_
        rintro e w2 ⟨g, rfl, _, ha, hb2⟩
        have hrow := ha.row (by rw [Da.keyL_length]; unfold maxLen; decide)
        have HROW : Hid (RowV (Da.keyL k s.data.toList n) (.slice (some ⟨g, 0, none⟩) 32 32) w2) := Lib.hid ⟨_, 32, by rw [Da.keyL_length], by rw [Da.keyL_length] at hrow; exact hrow⟩
        have HB2 := Lib.hid (Kit.step HB1.out hb2)
        clear ha hb2 hrow
        go_wp2_with fail
        refine bodyPost_ret (results_tmp2 rfl _ _ _) rfl ?_
        exact ⟨.slice (some ⟨g, 0, none⟩) 32 32, rfl, HROW.out, HB2.out⟩
end Go.Proofs.YtemngcifeglpmaaDoor
