/- Contract of Trim. -/
import Derived.Test.YthbmbobjalgafaaDoorAp
import Derived.Deep.Onto
namespace Go.Proofs.YthbmbobjalgafaaDoor
open Go.RowKit
set_option linter.unusedVariables false
set_option linter.unusedSimpArgs false
/-- Trim's answer is the caller's own -/
theorem trim_own (p : List UInt8) (o : Option Addr) (c : Nat) (w : World) (hP : RowIs w o (bytesV p) c) (hl : p.length ≤ 1000000) :
    Calls Tryd.prog 15 #[.slice o p.length c] w fun e w' => ∃ x, e = .returned x ∧ w'.ownsRow w.heap.size 5 1 x (tr p).length (bytesV (tr p)) ∧ Below w.heap.size w w' := by
  have HC := Lib.hid (cut_any o p c w hP)
  have htl := tr_le p
  clear hP
  go_enter Tryd.func15, Tryd.ntmps15
  go_wp2_with fail
  refine HC.out.mono ?_; rintro e w1 ⟨rfl, hb, hr⟩
  have HB := Lib.hid hb
  have HR := Lib.hid hr
  have HOWN : Hid (w1.ownsRow w1.heap.size 5 1 (.slice none 0 0) 0 (bytesV [])) := Lib.hid (World.ownsRow_nil _ _ _ _)
  clear hb hr HC
  go_wp2_with (at_builtin; refine append_row rfl (.const (.slice none 0 0)) (.tmp 4) rfl w1.heap.size _ 0 [] rfl HOWN.out o (tr p).length c (tr p) rfl rfl HR.out (by omega) (Nat.le_refl _) ?_)
  intro v' w' hv hg
  have hb2 := own_below (n := 0) (Below.refl _ _) HOWN.out hg
  have HV := Lib.hid (hv.mono HB.out.size)
  have HB2 := Lib.hid (Kit.step HB.out hb2)
  clear hv hg hb2
  go_wp2
  go_ret
  exact ⟨v', rfl, by simpa using HV.out, HB2.out⟩
theorem trim_any (p : List UInt8) (o : Option Addr) (c : Nat) (w : World) (hP : RowIs w o (bytesV p) c) (hl : p.length ≤ 1000000) :
    Calls Tryd.prog 15 #[.slice o p.length c] w (Rows (tr p) w) :=
  (trim_own p o c w hP hl).mono fun e v ⟨x, h1, h2, h3⟩ => ⟨x, h1, owns_rv h2 rfl, h3⟩
theorem trim_rv {p : List UInt8} {a : Value} {v : World} (hp : RowV p a v) (hl : p.length ≤ 1000000) : Calls Tryd.prog 15 #[a] v (Rows (tr p) v) := by
  obtain ⟨o, c, rfl, hp⟩ := hp
  exact trim_any p o c v hp hl
end Go.Proofs.YthbmbobjalgafaaDoor
