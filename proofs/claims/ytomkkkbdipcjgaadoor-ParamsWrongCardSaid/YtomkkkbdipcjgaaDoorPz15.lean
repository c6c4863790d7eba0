/- Layer 15's laws: what they ask of the code; alive; ParamsDefault. baileenum.Err: a number's error. ParamsDefault, walked. -/
import Derived.Test.YtomkkkbdipcjgaaDoorRx15
import Derived.Test.YtomkkkbdipcjgaaDoorEx15
import Derived.Lib.ItoaNum
import Derived.Lib.LaidTab
import Derived.Lib.ItoaMem
import Derived.Laws.StructEq
namespace Go.Proofs.YtomkkkbdipcjgaaDoor
open Go.RowKit
set_option linter.unusedVariables false
set_option linter.unusedSimpArgs false
/-- the three sentinels of layer 15 -/
structure E15 (W : World) (A : Nat → Addr) : Prop where
  c0 : W.cell? ⟨0, 0, none⟩ = some (.iface 127 (.pointer (some (A 0))))
  c7 : W.cell? ⟨7, 0, none⟩ = some (.iface 127 (.pointer (some (A 7))))
  c17 : W.cell? ⟨17, 0, none⟩ = some (.iface 127 (.pointer (some (A 17))))
theorem cell_lt15 {W : World} {a : Addr} {v : Value} (h : W.cell? a = some v) : a.block < W.heap.size := by
  unfold World.cell? at h
  cases hh : W.heap[a.block]? with
  | none => simp [hh] at h
  | some o => exact (Array.getElem?_eq_some_iff.1 hh).1
theorem E15.later {W W' : World} {A : Nat → Addr} (h : E15 W A) (hb : Below W.heap.size W W') : E15 W' A :=
  ⟨(hb.cell (cell_lt15 h.c0)).trans h.c0, (hb.cell (cell_lt15 h.c7)).trans h.c7, (hb.cell (cell_lt15 h.c17)).trans h.c17⟩
theorem Er.Errs.e15 {W : World} {A : Nat → Addr} (h : Er.Errs W A) : E15 W A := ⟨h.c0, h.c7, h.c17⟩
/-- a Wrong in a block -/
def WrAt (W : World) (b : Nat) (f : List UInt8) (n : Int) (e : Value) : Prop := W.heap[b]? = some (.cells #[txt15 f, .int .i64 n, e] 59 (0, 0))
theorem WrAt.lt {W : World} {b : Nat} {f : List UInt8} {n : Int} {e : Value} (h : WrAt W b f n e) : b < W.heap.size := (Array.getElem?_eq_some_iff.1 h).1
theorem WrAt.later {W W' : World} {b : Nat} {f : List UInt8} {n : Int} {e : Value} (h : WrAt W b f n e) (hb : Below W.heap.size W W') : WrAt W' b f n e := (hb.block b h.lt).trans h
theorem WrAt.cell {W : World} {b : Nat} {f : List UInt8} {n : Int} {e : Value} (h : WrAt W b f n e) : W.cell? ⟨b, 2, none⟩ = some e := by unfold World.cell?; rw [show W.heap[b]? = _ from h]; rfl
def wr15 (b : Nat) : Value := .iface 56 (.pointer (some ⟨b, 0, none⟩))
def sn15 (A : Nat → Addr) (k : Nat) : Value := .iface 127 (.pointer (some (A (k - 1))))
/-- what is wrong with parameters, as an error -/
def WrV (A : Nat → Addr) (p : Pm15) (W : World) (v : Value) : Prop :=
  (Da.bad15 p = 0 ∧ v = .nilIface) ∨ (Da.bad15 p ≠ 0 ∧ ∃ b, v = wr15 b ∧ WrAt W b (Da.fld15 (Da.bad15 p)) (Da.val15 p (Da.bad15 p)) (sn15 A (Da.err15 (Da.bad15 p))))
theorem WrV.later {A : Nat → Addr} {p : Pm15} {W W' : World} {v : Value} (h : WrV A p W v) (hb : Below W.heap.size W W') : WrV A p W' v := by
  rcases h with h | ⟨h0, b, e, h⟩
  · exact .inl h
  · exact .inr ⟨h0, b, e, h.later hb⟩
/-- Parse's error -/
def PrV (A : Nat → Addr) (b : List UInt8) (W : World) (v : Value) : Prop := (b.length = 9 ∧ WrV A (Da.prs15 b) W v) ∨ (b.length ≠ 9 ∧ v = sn15 A 8)
def Da.win15 (p : Pm15) : Int := if Da.bad15 p = 0 then p.pe + p.pa * (1 + p.re) else 0
def Da.dft15 (n : Int) : Pm15 := ⟨n, 4, 4, 20, 4, 2⟩
/-- Bytes' row: none, where a field is wrong -/
def Da.bts15 (p : Pm15) : List UInt8 := if Da.bad15 p = 0 then Da.byt15 p else []
/-- a listed table reads as it did, whatever is made behind the heap -/
theorem tabIs_later {P : Program} {w w' : World} {name : String} {k : IntKind} {zs : List Int} (h : Lib.TabIs P w name k zs) (hb : Below w.heap.size w w') : Lib.TabIs P w' name k zs := by
  unfold Lib.TabIs World.var? at *
  cases hg : P.globalNamed name with
  | none => simp [hg] at h
  | some g =>
    simp only [hg, Option.bind_some] at h ⊢
    have hlt : g < w.heap.size := by
      rcases Nat.lt_or_ge g w.heap.size with h' | h'
      · exact h'
      · rw [Array.getElem?_eq_none h'] at h; simp at h
    rw [hb.block g hlt]
    exact h
/-- the code's own list: how many bytes each field has -/
def Da.wid15 : List Int := [2, 1, 1, 2, 2, 1]
def Wd15 (W : World) : Prop := Lib.TabIs Tryd.prog W "bailee/params.widths" .i64 Da.wid15
/-- the library's list: the powers of ten -/
def P10 (W : World) : Prop := Lib.TabIs Tryd.prog W "internal/strconv.uint64pow10" .u64 Lib.pow10Tab
/-- what the laws of layer 15 ask of the code -/
structure PaC (A : Nat → Addr) : Prop where
  check : ∀ (W : World) (p : Pm15), p.ok → E15 W A → Calls Tryd.prog 9 #[.agg (pmA p)] W fun e w' => ∃ v, e = .returned v ∧ WrV A p w' v ∧ Below W.heap.size W w'
  stored : ∀ (W : World) (p : Pm15), p.ok → E15 W A → Calls Tryd.prog 12 #[.agg (pmA p)] W fun e w' => ∃ v, e = .returned (.tuple #[.int .i64 (if Da.bad15 p = 0 then (Da.tot15 p.sz : Int) + p.se else 0), v]) ∧ WrV A p w' v ∧ Below W.heap.size W w'
  default : ∀ (W : World) (n : Int), Calls Tryd.prog 25 #[.int .i64 n] W fun e w' => e = .returned (.agg (pmA (Da.dft15 n))) ∧ Below W.heap.size W w'
  unwrap : Er.UnwrapOk
  error : ∀ (W : World) (b : Nat) (f : List UInt8) (n : Int) (v : Value), WrAt W b f n v → f.length ≤ 100 → in64 n → P10 W → Calls Tryd.prog 27 #[.pointer (some ⟨b, 0, none⟩)] W fun e w' => e = .returned (txt15 (f ++ 32 :: Lib.itoa n)) ∧ Below W.heap.size W w'
  plain : ∀ (W : World) (p : Pm15), p.ok → E15 W A → Calls Tryd.prog 13 #[.agg (pmA p)] W fun e w' => ∃ v, e = .returned (.tuple #[.int .i64 (if Da.bad15 p = 0 then (Da.tot15 p.sz : Int) else 0), v]) ∧ WrV A p w' v ∧ Below W.heap.size W w'
  bytes : ∀ (W : World) (p : Pm15), p.ok → E15 W A → Wd15 W → Calls Tryd.prog 14 #[.agg (pmA p)] W fun e w' => ∃ o c v, e = .returned (.tuple #[.slice o (Da.bts15 p).length c, v]) ∧ RowIs w' o (bytesV (Da.bts15 p)) c ∧ WrV A p w' v ∧ Below W.heap.size W w'
  parse : ∀ (W : World) (b : List UInt8) (o : Option Addr) (c : Nat), RowIs W o (bytesV b) c → b.length ≤ 60 → E15 W A → Wd15 W → Calls Tryd.prog 21 #[.slice o b.length c] W fun e w' => ∃ v, e = .returned (.tuple #[.agg (pmA (Da.out15 b)), v]) ∧ PrV A b w' v ∧ Below W.heap.size W w'
  window : ∀ (W : World) (p : Pm15), p.ok → E15 W A → Calls Tryd.prog 15 #[.agg (pmA p)] W fun e w' => e = .returned (.int .i64 (Da.win15 p)) ∧ Below W.heap.size W w'
  budget : ∀ (W : World) (p : Pm15), p.ok → E15 W A → Calls Tryd.prog 16 #[.agg (pmA p)] W fun e w' => e = .returned (.int .i64 (if Da.bad15 p = 0 then p.se else 0)) ∧ Below W.heap.size W w'
  fnil : ∀ W : World, Er.EType W → Calls Tryd.prog 10 #[.nilIface] W fun e w' => e = .returned (.tuple #[txt15 [], .int .i64 0, .bool false]) ∧ Below W.heap.size W w'
  fwr : ∀ (W : World) (b : Nat) (f : List UInt8) (n : Int) (v : Value), WrAt W b f n v → Er.EType W → Calls Tryd.prog 10 #[wr15 b] W fun e w' => e = .returned (.tuple #[txt15 f, .int .i64 n, .bool true]) ∧ Below W.heap.size W w'
  fno : ∀ (W : World) (a : Addr), Er.EType W → Calls Tryd.prog 10 #[.iface 127 (.pointer (some a))] W fun e w' => e = .returned (.tuple #[txt15 [], .int .i64 0, .bool false]) ∧ Below W.heap.size W w'
theorem pm15c_info : (Tryd.prog.info? 23).map (·.size) = some 6 := by kernel_rfl
theorem bad_d100 : Da.bad15 (Da.dft15 100) = 0 := by decide +kernel
theorem bad_d0 : Da.bad15 ⟨100, 4, 0, 20, 4, 2⟩ = 3 := by decide +kernel
theorem tot_100 : Da.tot15 100 = 45 := by decide +kernel
theorem dft_ok {n : Int} (h : in64 n) : (Da.dft15 n).ok := ⟨h, by unfold in64 Da.dft15; dsimp only; omega, by unfold in64 Da.dft15; dsimp only; omega, by unfold in64 Da.dft15; dsimp only; omega, by unfold in64 Da.dft15; dsimp only; omega, by unfold in64 Da.dft15; dsimp only; omega⟩
set_option maxRecDepth 100000 in
set_option maxHeartbeats 4000000 in
theorem al15_any (A : Nat → Addr) (hC : PaC A) (w : World) (hE : E15 w A) (hT : Er.EType w) :
    Calls Tryd.prog 7 #[] w fun e w' => e = .returned (.bool true) ∧ Below w.heap.size w w' := by
  have HC := Lib.hid hC
  have HE := Lib.hid hE
  have HT := Lib.hid hT
  have HD := Lib.hid (hC.default w 100)
  clear hC hE hT
  have hok1 : (Da.dft15 100).ok := dft_ok (by unfold in64; omega)
  have hok0 : Pm15.ok ⟨100, 4, 0, 20, 4, 2⟩ := by constructor <;> (unfold in64; dsimp only; omega)
  have HOK := Lib.hid (And.intro hok1 hok0)
  clear hok1 hok0
  go_enter Tryd.func7, Tryd.ntmps7
  go_upto_region 1 with fail
  apply wp_region_lit
  (refine wpList_plain rfl (fun K hK => ?_); go_simp)
  refine HD.out.mono ?_
  rintro e W1 ⟨rfl, hb1⟩
  refine hK _ _ ?_
  clear hK K HD
  obtain ⟨g, hg⟩ : ∃ g, W1.heap.size = g := ⟨_, rfl⟩
  obtain ⟨W2, hW2⟩ : ∃ W2, W1.alloc (.cells #[.int .i64 0, .int .i64 0, .int .i64 0, .int .i64 0, .int .i64 0, .int .i64 0] 23) = W2 := ⟨_, rfl⟩
  have hz : W2.heap[g]? = some (.cells #[.int .i64 0, .int .i64 0, .int .i64 0, .int .i64 0, .int .i64 0, .int .i64 0] 23 (0, 0)) := by rw [← hW2, ← hg]; exact World.alloc_heap_new W1 _
  obtain ⟨W3, hW3⟩ : ∃ W3, W2.setRow g (pmA (Da.dft15 100)) = W3 := ⟨_, rfl⟩
  have hA3 : Arr W3 g 23 (pmL (Da.dft15 100)) := by rw [← hW3]; exact setRow_heap _ _ _ _ _ _ hz
  have hb3 : Below W1.heap.size W1 W3 := by rw [← hW3, ← hW2]; exact (new12 _ _).trans (below_row (Nat.le_of_eq hg))
  obtain ⟨W4, hW4⟩ : ∃ W4, W3.setCell ⟨g, 2, none⟩ (.int .i64 0) = W4 := ⟨_, rfl⟩
  have hA4 : Arr W4 g 23 (pmL ⟨100, 4, 0, 20, 4, 2⟩) := by rw [← hW4]; exact hA3.set 2 (.int .i64 0)
  have hb4 : Below W1.heap.size W1 W4 := by rw [← hW4]; exact hb3.setCell (p := ⟨g, 2, none⟩) (Nat.le_of_eq hg) _
  have hc : W3.cell? ⟨g, 2, none⟩ = some (.int .i64 4) := by rw [hA3.cell]; rfl
  have hf : W3.frozen? ⟨g, 2, none⟩ = false := by unfold World.frozen?; rw [show W3.heap[g]? = _ from hA3]; rfl
  have HA4 : Hid (W4.heap[g]? = some (.cells (pmA ⟨100, 4, 0, 20, 4, 2⟩) 23 (0, 0))) := Lib.hid hA4
  have HB4 := Lib.hid (Kit.step hb1 hb4)
  have HZ := Lib.hid hz
  have HG := Lib.hid hg
  have HW2 := Lib.hid hW2
  have HW3 := Lib.hid hW3
  have HW4 := Lib.hid hW4
  clear hb1 hg hW2 hz hW3 hA3 hb3 hW4 hA4 hb4
  (refine wpList_plain rfl (fun K hK => ?_); go_simp; refine hK _ _ ?_; clear hK K)
  rw [HW2.out, HG.out]
  refine wpList_store_row rfl 23 (.tmp 1) (.tmp 7) rfl g (pmA (Da.dft15 100)) rfl rfl 23 _ HZ.out pm15c_info rfl (pm15_oneCell _) ?_
  rw [HW3.out]
  have HCK := Lib.hid (HC.out.check W4 ⟨100, 4, 0, 20, 4, 2⟩ HOK.out.2 (HE.out.later HB4.out))
  go_upto_region 3 with fail
  rw [HW4.out]
  apply wp_region_lit
  refine wpList_load_row rfl 23 (.tmp 1) rfl g rfl 23 (pmA ⟨100, 4, 0, 20, 4, 2⟩) (0, 0) _ HA4.out Tryd.underlying23 rfl pm15c_info ?_
  (refine wpList_plain rfl (fun K hK => ?_); go_simp)
  refine HCK.out.mono ?_
  rintro e W5 ⟨v, rfl, hv, hb5⟩
  refine hK _ _ ?_
  clear hK K HCK
  rcases hv with ⟨h0, _⟩ | ⟨_, b, rfl, hw⟩
  · rw [bad_d0] at h0; cases h0
  rw [bad_d0] at hw
  have hB5 := Kit.step HB4.out hb5
  have FW := HC.out.fwr W5 b _ _ _ hw (HT.out.later hB5)
  rw [show Da.fld15 3 = [115, 112, 111, 116, 115] from rfl, show Da.val15 ⟨100, 4, 0, 20, 4, 2⟩ 3 = 0 from rfl] at FW
  have HFW := Lib.hid FW
  have HB5 := Lib.hid hB5
  clear hw hB5 FW hb5
  (refine wpList_plain rfl (fun K hK => ?_); go_simp)
  refine HFW.out.mono ?_
  rintro e W6 ⟨rfl, hb6⟩
  refine hK _ _ ?_
  clear hK K HFW
  have hB6 := Kit.step HB5.out hb6
  have HD2 := Lib.hid (HC.out.default W6 100)
  have HB6 := Lib.hid hB6
  clear hb6 hB6
  go_wp2_with fail
  refine HD2.out.mono ?_
  rintro e W7 ⟨rfl, hb7⟩
  have HB7 := Lib.hid (Kit.step HB6.out hb7)
  have ST := HC.out.stored W7 (Da.dft15 100) HOK.out.1 (HE.out.later HB7.out)
  rw [if_pos bad_d100, show (Da.dft15 100).sz = 100 from rfl, tot_100, show (Da.dft15 100).se = 4 from rfl, show (((45 : Nat) : Int) + 4) = 49 from rfl] at ST
  have HST := Lib.hid ST
  clear hb7 ST HD2
  go_wp2_with fail
  refine HST.out.mono ?_
  rintro e W8 ⟨v2, rfl, hv2, hb8⟩
  have e2 : v2 = .nilIface := by
    rcases hv2 with ⟨_, h⟩ | ⟨h0, _⟩
    · exact h
    · exact absurd bad_d100 h0
  subst e2
  have HB8 := Lib.hid (Kit.step HB7.out hb8)
  have HD3 := Lib.hid (HC.out.default W8 100)
  clear hb8 HST
  go_wp2_with fail
  refine HD3.out.mono ?_
  rintro e W9 ⟨rfl, hb9⟩
  have HB9 := Lib.hid (Kit.step HB8.out hb9)
  have HCK2 := Lib.hid (HC.out.check W9 (Da.dft15 100) HOK.out.1 (HE.out.later HB9.out))
  clear hb9 HD3
  go_wp2_with fail
  refine HCK2.out.mono ?_
  rintro e W10 ⟨v3, rfl, hv3, hb10⟩
  have e3 : v3 = .nilIface := by
    rcases hv3 with ⟨_, h⟩ | ⟨h0, _⟩
    · exact h
    · exact absurd bad_d100 h0
  subst e3
  have HB10 := Lib.hid (Kit.step HB9.out hb10)
  clear hb10
  unfold txt15
  go_wp2_with fail
  go_ret
  exact ⟨rfl, HB10.out⟩
end Go.Proofs.YtomkkkbdipcjgaaDoor
namespace Go.Proofs.YtomkkkbdipcjgaaDoor
open Go.RowKit
set_option linter.unusedVariables false
set_option linter.unusedSimpArgs false
def er15 (A : Nat → Addr) (k : Nat) : Value := if k = 0 then .nilIface else sn15 A k
def ers15 (A : Nat → Addr) : Array Value := #[.nilIface, sn15 A 1, sn15 A 2, sn15 A 3, sn15 A 4, sn15 A 5, sn15 A 6, sn15 A 7, sn15 A 8, sn15 A 9, sn15 A 10, sn15 A 11, sn15 A 12, sn15 A 13, sn15 A 14, sn15 A 15, sn15 A 16, sn15 A 17, sn15 A 18, sn15 A 19, sn15 A 20]
theorem ers15_at (A : Nat → Addr) (k : Nat) (hk : k ≤ 20) : (ers15 A)[k]? = some (er15 A k) := by
  match k, hk with
  | 0, _ | 1, _ | 2, _ | 3, _ | 4, _ | 5, _ | 6, _ | 7, _ | 8, _ | 9, _ | 10, _ | 11, _ | 12, _ | 13, _ | 14, _ | 15, _ | 16, _ | 17, _ | 18, _ | 19, _ | 20, _ => rfl
  | n + 21, h => omega
set_option maxRecDepth 100000 in
set_option maxHeartbeats 1000000 in
theorem er15_any (A : Nat → Addr) (k : Nat) (hk : k ≤ 20) (w : World) (hE : Er.Errs w A) :
    Calls Tryd.prog 26 #[.int .i64 (k : Int)] w fun e w' => e = .returned (er15 A k) ∧ Below w.heap.size w w' := by
  obtain ⟨inj, c0, c1, c2, c3, c4, c5, c6, c7, c8, c9, c10, c11, c12, c13, c14, c15, c16, c17, c18, c19, hbl⟩ := hE
  clear inj hbl
  have hd1 : decide ((k : Int) < 0) = false := decide_eq_false (by omega)
  have hd2 : decide ((k : Int) ≥ 21) = false := decide_eq_false (by omega)
  have hd3 : decide (21 ≤ k) = false := decide_eq_false (by omega)
  obtain ⟨W1, hW1⟩ : ∃ W1, w.alloc (.cells (ers15 A) 29) = W1 := ⟨_, rfl⟩
  obtain ⟨g, hg⟩ : ∃ g, w.heap.size = g := ⟨_, rfl⟩
  have hh : W1.heap[g]? = some (.cells (ers15 A) 29 (0, 0)) := by rw [← hW1, ← hg]; exact World.alloc_heap_new w _
  have hb : Below w.heap.size w W1 := by rw [← hW1]; exact new12 _ _
  have hcell : W1.cell? ⟨g, k, none⟩ = some (er15 A k) := by unfold World.cell?; rw [hh]; exact ers15_at A k hk
  have HB := Lib.hid hb
  have HG := Lib.hid hg
  unfold ers15 sn15 at hW1
  have HW1 := Lib.hid hW1
  clear hb hg hW1 hh
  go_enter Tryd.func26, Tryd.ntmps26
  go_upto_region 2 with fail
  rw [HW1.out, HG.out]
  -- STOP1
  go_wp2_with fail
  -- STOP2
  go_ret
  exact ⟨rfl, HB.out⟩
end Go.Proofs.YtomkkkbdipcjgaaDoor
namespace Go.Proofs.YtomkkkbdipcjgaaDoor
open Go.RowKit
set_option linter.unusedVariables false
set_option linter.unusedSimpArgs false
/-- are two the same? -/
def pmQ (p q : Pm15) : Bool := p.sz == q.sz && (p.se == q.se && (p.sp == q.sp && (p.pe == q.pe && (p.pa == q.pa && p.re == q.re))))
theorem pmQ_self (p : Pm15) : pmQ p p = true := by simp [pmQ]
theorem pm_eqlC (p q : Pm15) (W : World) : (binOp .eql 23 (.agg (pmA p)) (.agg (pmA q))).run Tryd.prog W = .ok (.bool (pmQ p q)) W := by
  unfold pmA pmQ
  go_simp
  repeat (first | split | rfl)
  all_goals simp_all
theorem bad_dft {n : Int} (h0 : 0 ≤ n) (h1 : n ≤ 2000) : Da.bad15 (Da.dft15 n) = 0 := by
  unfold Da.bad15 Da.dft15
  dsimp only
  repeat (rw [if_neg (by omega)])
theorem bad_dft1 {n : Int} (h : n < 0 ∨ 2000 < n) : Da.bad15 (Da.dft15 n) ≠ 0 := by
  unfold Da.bad15 Da.dft15
  dsimp only
  rw [if_pos h]
  decide
set_option maxRecDepth 100000 in
set_option maxHeartbeats 4000000 in
theorem pd15_any (A : Nat → Addr) (hC : PaC A) (n : Int) (hn : in64 n) (w : World) (hE : E15 w A) (hT : Er.EType w) :
    Calls Tryd.prog 5 #[.int .i64 n] w fun e w' => e = .returned (.bool true) ∧ Below w.heap.size w w' := by
  have AL := al15_any A hC w hE hT
  have HAL := Lib.hid AL
  have HC := Lib.hid hC
  have HE := Lib.hid hE
  have HN := Lib.hid hn
  clear AL hC hE hT hn
  go_enter Tryd.func5, Tryd.ntmps5
  go_wp2_with fail
  refine HAL.out.mono ?_
  rintro e W1 ⟨rfl, hb1⟩
  have HD := Lib.hid (HC.out.default W1 n)
  have HB1 := Lib.hid hb1
  have HE1 := Lib.hid (HE.out.later hb1)
  clear hb1 HAL
  go_upto_region 3 with fail
  apply wp_region_lit
  (refine wpList_plain rfl (fun K hK => ?_); go_simp; refine hK _ _ ?_; clear hK K)
  (refine wpList_plain rfl (fun K hK => ?_); go_simp)
  refine HD.out.mono ?_
  rintro e W2 ⟨rfl, hb2⟩
  refine hK _ _ ?_
  clear hK K HD
  obtain ⟨g, hg⟩ : ∃ g, W2.heap.size = g := ⟨_, rfl⟩
  obtain ⟨W3, hW3⟩ : ∃ W3, W2.alloc (.cells #[.int .i64 0, .int .i64 0, .int .i64 0, .int .i64 0, .int .i64 0, .int .i64 0] 23) = W3 := ⟨_, rfl⟩
  have hz : W3.heap[g]? = some (.cells #[.int .i64 0, .int .i64 0, .int .i64 0, .int .i64 0, .int .i64 0, .int .i64 0] 23 (0, 0)) := by rw [← hW3, ← hg]; exact World.alloc_heap_new W2 _
  obtain ⟨W4, hW4⟩ : ∃ W4, W3.setRow g (pmA (Da.dft15 n)) = W4 := ⟨_, rfl⟩
  have hA4 : W4.heap[g]? = some (.cells (pmA (Da.dft15 n)) 23 (0, 0)) := by rw [← hW4]; exact setRow_heap _ _ _ _ _ _ hz
  have hb4 : Below W2.heap.size W2 W4 := by rw [← hW4, ← hW3]; exact (new12 _ _).trans (below_row (Nat.le_of_eq hg))
  have hb14 := Kit.step hb2 hb4
  have HCK := Lib.hid (HC.out.check W4 (Da.dft15 n) (dft_ok HN.out) (HE1.out.later hb14))
  have HB4 := Lib.hid (Kit.step HB1.out hb14)
  have HA4 := Lib.hid hA4
  have HZ := Lib.hid hz
  have HG := Lib.hid hg
  have HW3 := Lib.hid hW3
  have HW4 := Lib.hid hW4
  clear hb2 hg hW3 hz hW4 hA4 hb4 hb14
  (refine wpList_plain rfl (fun K hK => ?_); go_simp; refine hK _ _ ?_; clear hK K)
  rw [HW3.out, HG.out]
  refine wpList_store_row rfl 23 (.tmp 3) (.tmp 7) rfl g (pmA (Da.dft15 n)) rfl rfl 23 _ HZ.out pm15c_info rfl (pm15_oneCell _) ?_
  rw [HW4.out]
  refine wpList_nil ?_
  have hq : ∀ W, (binOp .eql 23 (.agg (pmA (Da.dft15 n))) (.agg #[.int .i64 n, .int .i64 4, .int .i64 4, .int .i64 20, .int .i64 4, .int .i64 2])).run Tryd.prog W = .ok (.bool true) W := fun W => by
    have := pm_eqlC (Da.dft15 n) (Da.dft15 n) W
    rw [pmQ_self] at this
    exact this
  go_upto_region 4 with fail
  apply wp_region_lit
  refine wpList_load_row rfl 23 (.tmp 3) rfl g rfl 23 (pmA (Da.dft15 n)) (0, 0) _ HA4.out Tryd.underlying23 rfl pm15c_info ?_
  (refine wpList_plain rfl (fun K hK => ?_); go_simp; refine hK _ _ ?_; clear hK K)
  (refine wpList_plain rfl (fun K hK => ?_); go_simp; refine hK _ _ ?_; clear hK K)
  (refine wpList_plain rfl (fun K hK => ?_); go_simp; refine hK _ _ ?_; clear hK K)
  (refine wpList_plain rfl (fun K hK => ?_); go_simp; refine hK _ _ ?_; clear hK K)
  refine BigFrame.wpList_want (by rfl) (fun K hK => wp_load_row 23 (.tmp 3) rfl g rfl 23 (pmA (Da.dft15 n)) (0, 0) _ HA4.out Tryd.underlying23 rfl pm15c_info (hK _ _ ?_))
  clear hK K hq
  refine BigFrame.wpList_want (by rfl) (fun K hK => ?_)
  go_simp
  refine HCK.out.mono ?_
  rintro e W5 ⟨v, rfl, hv, hb5⟩
  refine hK _ _ ?_
  clear hK K HCK
  have HB5 := Lib.hid (Kit.step HB4.out hb5)
  clear hb5
  by_cases h0 : 0 ≤ n
  · have hd1 : decide (n ≥ 0) = true := decide_eq_true h0
    have hd2 : decide (0 ≤ n) = true := decide_eq_true h0
    by_cases h1 : n ≤ 2000
    · have hd3 : decide (n ≤ 2000) = true := decide_eq_true h1
      have e2 : v = .nilIface := by
        rcases hv with ⟨_, h⟩ | ⟨h, _⟩
        · exact h
        · exact absurd (bad_dft h0 h1) h
      subst e2
      clear hv h0 h1
      go_wp2_with fail
      go_ret
      exact ⟨rfl, HB5.out⟩
    · have hd3 : decide (n ≤ 2000) = false := decide_eq_false h1
      rcases hv with ⟨h, _⟩ | ⟨_, b, rfl, _⟩
      · exact absurd h (bad_dft1 (.inr (by omega)))
      clear h0 h1
      unfold wr15
      go_wp2_with fail
      go_ret
      exact ⟨rfl, HB5.out⟩
  · have hd1 : decide (n ≥ 0) = false := decide_eq_false h0
    have hd2 : decide (0 ≤ n) = false := decide_eq_false h0
    rcases hv with ⟨h, _⟩ | ⟨_, b, rfl, _⟩
    · exact absurd h (bad_dft1 (.inl (by omega)))
    clear h0
    unfold wr15
    go_wp2_with fail
    go_ret
    exact ⟨rfl, HB5.out⟩
end Go.Proofs.YtomkkkbdipcjgaaDoor
