/- The code's Find. -/
import Derived.Test.YtgchfijeiggimaaDoorCb
import Derived.Test.YtgchfijeiggimaaDoorCf
import Derived.Test.YtgchfijeiggimaaDoorFe
import Derived.Test.YtgchfijeiggimaaDoorPl
import Derived.Test.YtgchfijeiggimaaDoorTs
import Derived.BigRegion
namespace Go.Proofs.YtgchfijeiggimaaDoor
open Go.RowKit
set_option linter.unusedVariables false
set_option linter.unusedSimpArgs false
theorem xsL_ne (n : Nat) (z : List Int) : ∀ y ∈ xsL n z, y ≠ 0 := fun y hy => by
  obtain ⟨p, _, rfl⟩ := List.mem_map.1 hy
  exact Gf.al_ne _
/-- the erasure locator -/
theorem er_loc (n : Nat) (z : List Int) : tr (prodL (fun r => [1, r]) (xsL n z) z.length) = Gf.locL (xsL n z) := by
  rw [← Gf.tr_loc _ (xsL_ne n z)]
  refine tr_congr fun i => ?_
  have hl : (xsL n z).length = z.length := by simp [xsL]
  rw [Gf.prod_loc (xsL n z) z.length (by omega), List.take_of_length_le (by omega)]
theorem loc_len (n : Nat) (z : List Int) : (Gf.locL (xsL n z)).length = z.length + 1 := by rw [Gf.locL_length]; simp [xsL]
theorem loc_tr (n : Nat) (z : List Int) : tr (Gf.locL (xsL n z)) = Gf.locL (xsL n z) := Gf.tr_loc _ (xsL_ne n z)
theorem for_len (s : List UInt8) (n : Nat) (z : List Int) : (forL s (Gf.locL (xsL n z))).length = 32 - z.length := by
  unfold forL
  rw [tab_length, loc_tr, loc_len, Nat.add_sub_cancel]
/-- a register of the code's -/
structure RF (R C : List UInt8) (L : Nat) : Prop where
  run : Gf.Run (co R) R.length (co C) L
  least : Gf.Least (co R) R.length L
  le : L ≤ R.length
  len : C.length ≤ L + 1
def fz : Value := .agg #[.int .i64 0, .slice none 0 0, .slice none 0 0]
def fe_v (A : Nat → Addr) (k : Nat) : Ending := .returned (.tuple #[fz, .iface 128 (.pointer (some (A k)))])
/-- the errata locator -/
def ertL (C : List UInt8) (n : Nat) (z : List Int) : List UInt8 := tr (mulL (tr C) (Gf.locL (xsL n z)))
/-- the evaluator -/
def evaL (s C : List UInt8) (n : Nat) (z : List Int) : List UInt8 := tr ((tr (mulL (tr s) (ertL C n z))).take (lowN 32 (tr (mulL (tr s) (ertL C n z))).length))
def CFiTo (s : List UInt8) (n : Nat) (z : List Int) (A : Nat → Addr) (w : World) (e : Ending) (w' : World) : Prop :=
  Below w.heap.size w w' ∧ (((∃ k, k < z.length ∧ (ci z k < 0 ∨ (n : Int) ≤ ci z k)) ∧ e = fe_v A 0) ∨
    ((∀ k, k < z.length → 0 ≤ ci z k ∧ ci z k < n) ∧ (((∃ i j, j < i ∧ i < z.length ∧ ci z i = ci z j) ∧ e = fe_v A 9) ∨
      ((∀ i j, j < i → i < z.length → ci z i ≠ ci z j) ∧ ((32 < z.length ∧ e = fe_v A 15) ∨
        (z.length ≤ 32 ∧ ∃ C L, RF (forL s (Gf.locL (xsL n z))) C L ∧
          (((32 < 2 * L + z.length ∨ (tr C).length ≤ L) ∧ e = fe_v A 16) ∨
           (2 * L + z.length ≤ 32 ∧ L < (tr C).length ∧ ∃ x1 x2, e = .returned (.tuple #[.agg #[.int .i64 (L : Int), x1, x2], .nilIface]) ∧ RowV (ertL C n z) x1 w' ∧ RowV (evaL s C n z) x2 w'))))))))
theorem fnd_under : ∃ d, Tryd.prog.underlying 44 = some d ∧ (match d with | .struct _ | .array _ _ => true | _ => false) = true := ⟨_, Tryd.underlying44, rfl⟩
theorem fnd_size : (Tryd.prog.info? 44).map (·.size) = some 3 := by kernel_rfl
theorem fnd_set {w : World} {g : Nat} {a b c : Value} (h : w.heap[g]? = some (.cells #[a, b, c] 44 (0, 0))) (x y v : Value) : (((w.setCell ⟨g, 0, none⟩ x).setCell ⟨g, 1, none⟩ y).setCell ⟨g, 2, none⟩ v).heap[g]? = some (.cells #[x, y, v] 44 (0, 0)) := by
  have e1 := setCell_eq_setRow w g 0 _ _ _ x h
  have h1 := setRow_heap w g #[a, b, c] (#[a, b, c].setIfInBounds 0 x) _ _ h
  rw [← e1] at h1
  have e2 := setCell_eq_setRow _ g 1 _ _ _ y h1
  have h2 := setRow_heap _ g _ ((#[a, b, c].setIfInBounds 0 x).setIfInBounds 1 y) _ _ h1
  rw [← e2] at h2
  have e3 := setCell_eq_setRow _ g 2 _ _ _ v h2
  have h3 := setRow_heap _ g _ (((#[a, b, c].setIfInBounds 0 x).setIfInBounds 1 y).setIfInBounds 2 v) _ _ h2
  rw [← e3] at h3
  simpa using h3
theorem fnd_below {w : World} {g n : Nat} (h : n ≤ g) (x y v : Value) : Below n w (((w.setCell ⟨g, 0, none⟩ x).setCell ⟨g, 1, none⟩ y).setCell ⟨g, 2, none⟩ v) :=
  (((Below.refl n w).setCell (p := ⟨g, 0, none⟩) h _).setCell (p := ⟨g, 1, none⟩) h _).setCell (p := ⟨g, 2, none⟩) h _
theorem fnd_other {w : World} {g p : Nat} {a b c : Value} (h : w.heap[g]? = some (.cells #[a, b, c] 44 (0, 0))) (hp : p ≠ g) (x y v : Value) : (((w.setCell ⟨g, 0, none⟩ x).setCell ⟨g, 1, none⟩ y).setCell ⟨g, 2, none⟩ v).heap[p]? = w.heap[p]? := by
  have e1 := setCell_eq_setRow w g 0 _ _ _ x h
  have h1 := setRow_heap w g #[a, b, c] (#[a, b, c].setIfInBounds 0 x) _ _ h
  rw [← e1] at h1
  have e2 := setCell_eq_setRow _ g 1 _ _ _ y h1
  have h2 := setRow_heap _ g _ ((#[a, b, c].setIfInBounds 0 x).setIfInBounds 1 y) _ _ h1
  rw [← e2] at h2
  have e3 := setCell_eq_setRow _ g 2 _ _ _ v h2
  rw [e3, setRow_other _ _ _ _ hp, e2, setRow_other _ _ _ _ hp, e1, setRow_other _ _ _ _ hp]
theorem fnd_row {w : World} {g : Nat} {o : Option Addr} {z : List UInt8} {cap : Nat} (h : w.heap[g]? = some (.cells #[.int .i64 0, .slice none 0 0, .slice none 0 0] 44 (0, 0))) (hr : RowIs w o (bytesV z) cap) (x y v : Value) : RowIs (((w.setCell ⟨g, 0, none⟩ x).setCell ⟨g, 1, none⟩ y).setCell ⟨g, 2, none⟩ v) o (bytesV z) cap :=
  ⟨hr.le, hr.cap, hr.nil, fun h0 => by
    obtain ⟨p, off, e, hlt, hc⟩ := hr.cells h0
    have h1 := hc 0 _ (bytesV_get z 0 (by simpa using h0))
    have hne : p ≠ g := fun e => by
      subst e
      have h2 := cell_of_row w p (off + 0) _ _ _ h
      rw [h1] at h2
      rcases off with _ | _ | _ | k <;> simp at h2
    refine ⟨p, off, e, ?_, fun i v hv => (World.cell?_of_block (fnd_other h hne _ _ _)).trans (hc i v hv)⟩
    have hb := fnd_other h hne x y v
    rw [Array.getElem?_eq_getElem hlt] at hb
    exact (Array.getElem?_eq_some_iff.1 hb).1⟩
set_option maxRecDepth 100000 in
set_option maxHeartbeats 4000000 in
theorem cfi_any (s : List UInt8) (z : List Int) (n c : Nat) (o : Option Addr) (w : World) (A : Nat → Addr) (hs : s.length = 32) (hS : RowIs w o (intsV z) c) (hn1 : 33 ≤ n) (hn2 : n ≤ 255) (hl : z.length ≤ 900) (hE : ¬ EOk n z → Er.Six w A)
    (hE2 : (∃ C L, RF (forL s (Gf.locL (xsL n z))) C L ∧ (32 < 2 * L + z.length ∨ (tr C).length ≤ L)) → Er.Six w A) (CS : Array Value) (hCS : (bytesV s).toArray = CS) :
    Calls Tryd.prog 25 #[.agg CS, .int .i64 n, .slice o z.length c] w (CFiTo s n z A w) := by
  obtain ⟨w1, hw1⟩ : ∃ w1, (w.alloc (.cells CS 60)).alloc (.cells #[.int .i64 0, .slice none 0 0, .slice none 0 0] 44) = w1 := ⟨_, rfl⟩
  have hb1 : Below w.heap.size w w1 := by rw [← hw1]; exact ((Below.refl _ _).alloc (Nat.le_refl _) _).alloc (by simp) _
  have hs1 : w1.heap[w.heap.size]? = some (.cells CS 60 (0, 0)) := by
    rw [← hw1, (MapKept.heap_alloc _ _).2 _ (by simp)]; exact World.alloc_heap_new w _
  have hf1 : w1.heap[w.heap.size + 1]? = some (.cells #[.int .i64 0, .slice none 0 0, .slice none 0 0] 44 (0, 0)) := by
    have := World.alloc_heap_new (w.alloc (.cells CS 60)) (.cells #[.int .i64 0, .slice none 0 0, .slice none 0 0] 44)
    rw [hw1, World.size_alloc] at this
    exact this
  have HER := Lib.hid (cer_any z n c o w1 A (hS.later hb1) hn1 hn2 hl (fun h => (hE h).later hb1))
  have HE2 : Hid ((∃ C L, RF (forL s (Gf.locL (xsL n z))) C L ∧ (32 < 2 * L + z.length ∨ (tr C).length ≤ L)) → Er.Six w1 A) := Lib.hid fun h => (hE2 h).later hb1
  have HGW : Hid ((∃ C L, RF (forL s (Gf.locL (xsL n z))) C L ∧ (32 < 2 * L + z.length ∨ (tr C).length ≤ L)) → 16 < w.heap.size) := Lib.hid fun h => by
    obtain ⟨o, ho, _⟩ := cells_of_cell (hE2 h).c16
    exact (Array.getElem?_eq_some_iff.1 ho).1
  have HB1 := Lib.hid hb1
  have HS1 := Lib.hid hs1
  have HF1 := Lib.hid hf1
  have HW1 := Lib.hid hw1
  have HSZ := Lib.hid (csyn_size hs)
  rw [hCS] at HSZ
  have HCS := Lib.hid hCS
  rw [← hw1] at HER
  have hc10 : w1.cell? ⟨w.heap.size + 1, 0, none⟩ = some (.int .i64 0) := by rw [cell_of_row _ _ 0 _ _ _ hf1]; rfl
  clear hS hE hE2 hb1 hs1 hf1 hw1 hCS hc10
  go_enter Tryd.func25, Tryd.ntmps25
  go_wp2_with fail
  refine HER.out.mono ?_; rintro e w2 hto
  rw [HW1.out] at hto
  obtain ⟨hb2, hto⟩ := hto
  have HB2 := Lib.hid (Kit.step HB1.out hb2)
  rcases hto with ⟨h, rfl⟩ | ⟨hin, ⟨h, rfl⟩ | ⟨hdis, ⟨h, rfl⟩ | ⟨h32, x, rfl, hx⟩⟩⟩
  · have hf2 : w2.heap[w.heap.size + 1]? = some (.cells #[.int .i64 0, .slice none 0 0, .slice none 0 0] 44 (0, 0)) := by rw [hb2.block _ (Array.getElem?_eq_some_iff.1 HF1.out).1]; exact HF1.out
    have hcc0 : w2.cell? ⟨w.heap.size + 1, 0, none⟩ = some (.int .i64 0) := by rw [cell_of_row _ _ 0 _ _ _ hf2]; rfl
    have hff0 : w2.frozen? ⟨w.heap.size + 1, 0, none⟩ = false := by unfold World.frozen?; rw [hf2]; rfl
    have hcc1 : w2.cell? ⟨w.heap.size + 1, 1, none⟩ = some (.slice none 0 0) := by rw [cell_of_row _ _ 1 _ _ _ hf2]; rfl
    have hff1 : w2.frozen? ⟨w.heap.size + 1, 1, none⟩ = false := by unfold World.frozen?; rw [hf2]; rfl
    have hcc2 : w2.cell? ⟨w.heap.size + 1, 2, none⟩ = some (.slice none 0 0) := by rw [cell_of_row _ _ 2 _ _ _ hf2]; rfl
    have hff2 : w2.frozen? ⟨w.heap.size + 1, 2, none⟩ = false := by unfold World.frozen?; rw [hf2]; rfl
    have Hh := Lib.hid h
    have HF2 := Lib.hid hf2
    unfold er_v
    clear hb2 hf2 h
    go_wp2_with fail
    refine bodyPost_ret (results_cell_row2 rfl _ _ (w.heap.size + 1) 44 #[.int .i64 0, .slice none 0 0, .slice none 0 0] (0, 0) _ rfl (fnd_set HF2.out _ _ _) Tryd.underlying44 rfl fnd_size) rfl ?_
    exact ⟨HB2.out.trans (fnd_below (by omega) _ _ _), .inl ⟨Hh.out, rfl⟩⟩
  · have hf2 : w2.heap[w.heap.size + 1]? = some (.cells #[.int .i64 0, .slice none 0 0, .slice none 0 0] 44 (0, 0)) := by rw [hb2.block _ (Array.getElem?_eq_some_iff.1 HF1.out).1]; exact HF1.out
    have hcc0 : w2.cell? ⟨w.heap.size + 1, 0, none⟩ = some (.int .i64 0) := by rw [cell_of_row _ _ 0 _ _ _ hf2]; rfl
    have hff0 : w2.frozen? ⟨w.heap.size + 1, 0, none⟩ = false := by unfold World.frozen?; rw [hf2]; rfl
    have hcc1 : w2.cell? ⟨w.heap.size + 1, 1, none⟩ = some (.slice none 0 0) := by rw [cell_of_row _ _ 1 _ _ _ hf2]; rfl
    have hff1 : w2.frozen? ⟨w.heap.size + 1, 1, none⟩ = false := by unfold World.frozen?; rw [hf2]; rfl
    have hcc2 : w2.cell? ⟨w.heap.size + 1, 2, none⟩ = some (.slice none 0 0) := by rw [cell_of_row _ _ 2 _ _ _ hf2]; rfl
    have hff2 : w2.frozen? ⟨w.heap.size + 1, 2, none⟩ = false := by unfold World.frozen?; rw [hf2]; rfl
    have Hhin := Lib.hid hin
    have Hh := Lib.hid h
    have HF2 := Lib.hid hf2
    unfold er_v
    clear hb2 hf2 hin h
    go_wp2_with fail
    refine bodyPost_ret (results_cell_row2 rfl _ _ (w.heap.size + 1) 44 #[.int .i64 0, .slice none 0 0, .slice none 0 0] (0, 0) _ rfl (fnd_set HF2.out _ _ _) Tryd.underlying44 rfl fnd_size) rfl ?_
    exact ⟨HB2.out.trans (fnd_below (by omega) _ _ _), .inr ⟨Hhin.out, .inl ⟨Hh.out, rfl⟩⟩⟩
  · have hf2 : w2.heap[w.heap.size + 1]? = some (.cells #[.int .i64 0, .slice none 0 0, .slice none 0 0] 44 (0, 0)) := by rw [hb2.block _ (Array.getElem?_eq_some_iff.1 HF1.out).1]; exact HF1.out
    have hcc0 : w2.cell? ⟨w.heap.size + 1, 0, none⟩ = some (.int .i64 0) := by rw [cell_of_row _ _ 0 _ _ _ hf2]; rfl
    have hff0 : w2.frozen? ⟨w.heap.size + 1, 0, none⟩ = false := by unfold World.frozen?; rw [hf2]; rfl
    have hcc1 : w2.cell? ⟨w.heap.size + 1, 1, none⟩ = some (.slice none 0 0) := by rw [cell_of_row _ _ 1 _ _ _ hf2]; rfl
    have hff1 : w2.frozen? ⟨w.heap.size + 1, 1, none⟩ = false := by unfold World.frozen?; rw [hf2]; rfl
    have hcc2 : w2.cell? ⟨w.heap.size + 1, 2, none⟩ = some (.slice none 0 0) := by rw [cell_of_row _ _ 2 _ _ _ hf2]; rfl
    have hff2 : w2.frozen? ⟨w.heap.size + 1, 2, none⟩ = false := by unfold World.frozen?; rw [hf2]; rfl
    have Hhin := Lib.hid hin
    have Hhdis := Lib.hid hdis
    have Hh := Lib.hid h
    have HF2 := Lib.hid hf2
    unfold er_v
    clear hb2 hf2 hin hdis h
    go_wp2_with fail
    refine bodyPost_ret (results_cell_row2 rfl _ _ (w.heap.size + 1) 44 #[.int .i64 0, .slice none 0 0, .slice none 0 0] (0, 0) _ rfl (fnd_set HF2.out _ _ _) Tryd.underlying44 rfl fnd_size) rfl ?_
    exact ⟨HB2.out.trans (fnd_below (by omega) _ _ _), .inr ⟨Hhin.out, .inr ⟨Hhdis.out, .inl ⟨Hh.out, rfl⟩⟩⟩⟩
  · rw [er_loc] at hx
    obtain ⟨o3, c3, rfl, hx⟩ := hx
    have hgl := loc_len n z
    have hrl := for_len s n z
    have HIN := Lib.hid hin
    have HDIS := Lib.hid hdis
    have HF2 : Hid (w2.heap[w.heap.size + 1]? = some (.cells #[.int .i64 0, .slice none 0 0, .slice none 0 0] 44 (0, 0))) := Lib.hid (by rw [hb2.block _ (Array.getElem?_eq_some_iff.1 HF1.out).1]; exact HF1.out)
    have HS2 : Hid (w2.heap[w.heap.size]? = some (.cells CS 60 (0, 0))) := Lib.hid (by rw [hb2.block _ (Array.getElem?_eq_some_iff.1 HS1.out).1]; exact HS1.out)
    have HFO := Lib.hid (cfor_any s (Gf.locL (xsL n z)) o3 c3 w2 hs hx (by omega) (by rw [loc_tr]; omega) (by rw [loc_tr]; omega) CS HCS.out)
    have HE3 : Hid ((∃ C L, RF (forL s (Gf.locL (xsL n z))) C L ∧ (32 < 2 * L + z.length ∨ (tr C).length ≤ L)) → Er.Six w2 A) := Lib.hid fun h => (HE2.out h).later hb2
    have hloceq : (tr (prodL (fun r => [1, r]) (xsL n z) z.length)).length = (Gf.locL (xsL n z)).length := by rw [er_loc]
    have HG2 := Lib.hid hx
    clear hin hdis hx hb2
    try rw [hloceq]
    clear hloceq
    have HGLEN := Lib.hid hgl
    obtain ⟨G, hG⟩ : ∃ G, Gf.locL (xsL n z) = G := ⟨_, rfl⟩
    rw [hG] at HFO HG2 HGLEN hrl HE3 HGW ⊢
    have HGEQ := Lib.hid hG
    clear hgl hG
    go_wp2_with (refine wpList_load_row rfl 60 (.tmp 3) rfl w.heap.size rfl 60 CS (0, 0) _ HS2.out csyn_under rfl HSZ.out ?_)
    refine HFO.out.mono ?_; rintro e w3 ⟨x, rfl, hx, hb⟩
    obtain ⟨o4, c4, rfl, hx⟩ := hx
    have HF3 : Hid (w3.heap[w.heap.size + 1]? = some (.cells #[.int .i64 0, .slice none 0 0, .slice none 0 0] 44 (0, 0))) := Lib.hid (by rw [hb.block _ (Array.getElem?_eq_some_iff.1 HF2.out).1]; exact HF2.out)
    have HS3 : Hid (w3.heap[w.heap.size]? = some (.cells CS 60 (0, 0))) := Lib.hid (by rw [hb.block _ (Array.getElem?_eq_some_iff.1 HS2.out).1]; exact HS2.out)
    have HB3 := Lib.hid (Kit.step HB2.out hb)
    have HG3 := Lib.hid (HG2.out.later hb)
    have HE4 : Hid ((∃ C L, RF (forL s G) C L ∧ (32 < 2 * L + z.length ∨ (tr C).length ≤ L)) → Er.Six w3 A) := Lib.hid fun h => (HE3.out h).later hb
    have HRG := Lib.hid (creg_any (forL s G) o4 c4 w3 hx (by omega))
    obtain ⟨R, hR⟩ : ∃ R, forL s G = R := ⟨_, rfl⟩
    rw [hR] at HRG hrl ⊢
    have HRL := Lib.hid hrl
    have HR := Lib.hid hR
    clear hx hb hR HFO hrl
    go_wp2_with fail
    refine HRG.out.mono ?_; rintro e w4 ⟨C, L, x, rfl, hx, hb, g1, g2, g3, g4⟩
    obtain ⟨o5, c5, rfl, hx⟩ := hx
    have HF4 : Hid (w4.heap[w.heap.size + 1]? = some (.cells #[.int .i64 0, .slice none 0 0, .slice none 0 0] 44 (0, 0))) := Lib.hid (by rw [hb.block _ (Array.getElem?_eq_some_iff.1 HF3.out).1]; exact HF3.out)
    have HS4 : Hid (w4.heap[w.heap.size]? = some (.cells CS 60 (0, 0))) := Lib.hid (by rw [hb.block _ (Array.getElem?_eq_some_iff.1 HS3.out).1]; exact HS3.out)
    have HB4 := Lib.hid (Kit.step HB3.out hb)
    have HG4 := Lib.hid (HG3.out.later hb)
    have HE5 : Hid ((∃ C L, RF (forL s G) C L ∧ (32 < 2 * L + z.length ∨ (tr C).length ≤ L)) → Er.Six w4 A) := Lib.hid fun h => (HE4.out h).later hb
    have HRF : Hid (RF (forL s G) C L) := Lib.hid (by rw [HR.out]; exact ⟨g1, g2, g3, g4⟩)
    have HX := Lib.hid hx
    have hLm : L ≤ 32 := by have := HRL.out; have := HRF.out.le; rw [HR.out] at this; omega
    have h2L : IntKind.i64.wrap (2 * (L : Int)) = 2 * (L : Int) := by rw [IntKind.wrap_i64]; omega
    have hdg := deg_any o5 (tr C) c5 w4 hx
    rw [← tr_length, tr_tr] at hdg
    have HDG := Lib.hid hdg
    have htc := tr_le C
    clear hx hb g1 g2 hdg HRG
    by_cases h2 : R.length < 2 * L
    · have hd2 : decide ((R.length : Int) < 2 * (L : Int)) = true := decide_eq_true (by omega)
      have HL : Hid (32 < 2 * L + z.length) := Lib.hid (by have := HRL.out; omega)
      have hcc0 : w4.cell? ⟨w.heap.size + 1, 0, none⟩ = some (.int .i64 0) := by rw [cell_of_row _ _ 0 _ _ _ HF4.out]; rfl
      have hff0 : w4.frozen? ⟨w.heap.size + 1, 0, none⟩ = false := by unfold World.frozen?; rw [HF4.out]; rfl
      have hcc1 : w4.cell? ⟨w.heap.size + 1, 1, none⟩ = some (.slice none 0 0) := by rw [cell_of_row _ _ 1 _ _ _ HF4.out]; rfl
      have hff1 : w4.frozen? ⟨w.heap.size + 1, 1, none⟩ = false := by unfold World.frozen?; rw [HF4.out]; rfl
      have hcc2 : w4.cell? ⟨w.heap.size + 1, 2, none⟩ = some (.slice none 0 0) := by rw [cell_of_row _ _ 2 _ _ _ HF4.out]; rfl
      have hff2 : w4.frozen? ⟨w.heap.size + 1, 2, none⟩ = false := by unfold World.frozen?; rw [HF4.out]; rfl
      have HLOST : Hid (∃ C L, RF (forL s G) C L ∧ (32 < 2 * L + z.length ∨ (tr C).length ≤ L)) := Lib.hid ⟨C, L, HRF.out, .inl HL.out⟩
      have hE16 := (HE5.out HLOST.out).c16
      have hgw := HGW.out HLOST.out
      have hne1 : ¬ 16 = w.heap.size + 1 := by omega
      have hne2 : ¬ w.heap.size + 1 = 16 := by omega
      clear h2
      go_wp2_with fail
      go_region
      go_wp2_with fail
      refine bodyPost_ret (results_cell_row2 rfl _ _ (w.heap.size + 1) 44 #[.int .i64 0, .slice none 0 0, .slice none 0 0] (0, 0) _ rfl (fnd_set HF4.out _ _ _) Tryd.underlying44 rfl fnd_size) rfl ?_
      have hrf := HRF.out
      rw [← HGEQ.out] at hrf
      exact ⟨Kit.dn (HB4.out.trans (fnd_below (by omega) _ _ _)) 1, .inr ⟨HIN.out, .inr ⟨HDIS.out, .inr ⟨h32, C, L, hrf, .inl ⟨.inl HL.out, rfl⟩⟩⟩⟩⟩
    · have hd2 : decide ((R.length : Int) < 2 * (L : Int)) = false := decide_eq_false (by omega)
      have HN2 : Hid (2 * L + z.length ≤ 32) := Lib.hid (by have := HRL.out; omega)
      clear h2
      go_wp2_with fail
      refine HDG.out.mono ?_; rintro e w5 ⟨rfl, hb⟩
      have HF5 : Hid (w5.heap[w.heap.size + 1]? = some (.cells #[.int .i64 0, .slice none 0 0, .slice none 0 0] 44 (0, 0))) := Lib.hid (by rw [hb.block _ (Array.getElem?_eq_some_iff.1 HF4.out).1]; exact HF4.out)
      have HS5 : Hid (w5.heap[w.heap.size]? = some (.cells CS 60 (0, 0))) := Lib.hid (by rw [hb.block _ (Array.getElem?_eq_some_iff.1 HS4.out).1]; exact HS4.out)
      have HB5 := Lib.hid (Kit.step HB4.out hb)
      have HX5 := Lib.hid (HX.out.later hb)
      have HG5 := Lib.hid (HG4.out.later hb)
      have HE6 : Hid ((∃ C L, RF (forL s G) C L ∧ (32 < 2 * L + z.length ∨ (tr C).length ≤ L)) → Er.Six w5 A) := Lib.hid fun h => (HE5.out h).later hb
      clear hb HDG
      by_cases h3 : (tr C).length ≤ L
      · have hd3 : decide (((tr C).length : Int) - 1 < (L : Int)) = true := decide_eq_true (by omega)
        have HL := Lib.hid h3
        have hcc0 : w5.cell? ⟨w.heap.size + 1, 0, none⟩ = some (.int .i64 0) := by rw [cell_of_row _ _ 0 _ _ _ HF5.out]; rfl
        have hff0 : w5.frozen? ⟨w.heap.size + 1, 0, none⟩ = false := by unfold World.frozen?; rw [HF5.out]; rfl
        have hcc1 : w5.cell? ⟨w.heap.size + 1, 1, none⟩ = some (.slice none 0 0) := by rw [cell_of_row _ _ 1 _ _ _ HF5.out]; rfl
        have hff1 : w5.frozen? ⟨w.heap.size + 1, 1, none⟩ = false := by unfold World.frozen?; rw [HF5.out]; rfl
        have hcc2 : w5.cell? ⟨w.heap.size + 1, 2, none⟩ = some (.slice none 0 0) := by rw [cell_of_row _ _ 2 _ _ _ HF5.out]; rfl
        have hff2 : w5.frozen? ⟨w.heap.size + 1, 2, none⟩ = false := by unfold World.frozen?; rw [HF5.out]; rfl
        have HLOST : Hid (∃ C L, RF (forL s G) C L ∧ (32 < 2 * L + z.length ∨ (tr C).length ≤ L)) := Lib.hid ⟨C, L, HRF.out, .inr HL.out⟩
        have hE16 := (HE6.out HLOST.out).c16
        have hgw := HGW.out HLOST.out
        have hne1 : ¬ 16 = w.heap.size + 1 := by omega
        have hne2 : ¬ w.heap.size + 1 = 16 := by omega
        clear h3
        go_wp2_with fail
        go_region
        go_wp2_with fail
        refine bodyPost_ret (results_cell_row2 rfl _ _ (w.heap.size + 1) 44 #[.int .i64 0, .slice none 0 0, .slice none 0 0] (0, 0) _ rfl (fnd_set HF5.out _ _ _) Tryd.underlying44 rfl fnd_size) rfl ?_
        have hrf := HRF.out
        rw [← HGEQ.out] at hrf
        exact ⟨Kit.dn (HB5.out.trans (fnd_below (by omega) _ _ _)) 1, .inr ⟨HIN.out, .inr ⟨HDIS.out, .inr ⟨h32, C, L, hrf, .inl ⟨.inr HL.out, rfl⟩⟩⟩⟩⟩
      · have hd3 : decide (((tr C).length : Int) - 1 < (L : Int)) = false := decide_eq_false (by omega)
        have HN3 : Hid (L < (tr C).length) := Lib.hid (by omega)
        have HMU := Lib.hid (mul_poly_any (tr C) G o5 o3 c5 c3 w5 HX5.out HG5.out (by have := HGLEN.out; have := HRF.out.len; omega))
        have HML : Hid ((tr (mulL (tr C) G)).length ≤ 1000) := Lib.hid (by
          have h5 := tr_le (mulL (tr C) G)
          have h6 : (mulL (tr C) G).length = (tr C).length + G.length := by simp [mulL]
          have := HGLEN.out
          have := HRF.out.len
          omega)
        obtain ⟨M, hM⟩ : ∃ M, tr (mulL (tr C) G) = M := ⟨_, rfl⟩
        rw [hM] at HMU HML
        have HMEQ := Lib.hid hM
        clear h3 hM
        go_wp2_with fail
        refine HMU.out.mono ?_; rintro e w6 ⟨g6, c6, rfl, hg6, hb, hr⟩
        have HF6 : Hid (w6.heap[w.heap.size + 1]? = some (.cells #[.int .i64 0, .slice none 0 0, .slice none 0 0] 44 (0, 0))) := Lib.hid (by rw [hb.block _ (Array.getElem?_eq_some_iff.1 HF5.out).1]; exact HF5.out)
        have HS6 : Hid (w6.heap[w.heap.size]? = some (.cells CS 60 (0, 0))) := Lib.hid (by rw [hb.block _ (Array.getElem?_eq_some_iff.1 HS5.out).1]; exact HS5.out)
        have HB6 := Lib.hid (Kit.step HB5.out hb)
        have HR6 := Lib.hid hr
        have hpo := spoly_any s hs w6
        rw [HCS.out] at hpo
        have HPO := Lib.hid hpo
        clear hb hr hg6 HMU hpo
        go_wp2_with (refine wpList_load_row rfl 60 (.tmp 3) rfl w.heap.size rfl 60 CS (0, 0) _ HS6.out csyn_under rfl HSZ.out ?_)
        refine HPO.out.mono ?_; rintro e w7 ⟨x, rfl, hx, hb⟩
        obtain ⟨o7, c7, rfl, hx⟩ := hx
        have HF7 : Hid (w7.heap[w.heap.size + 1]? = some (.cells #[.int .i64 0, .slice none 0 0, .slice none 0 0] 44 (0, 0))) := Lib.hid (by rw [hb.block _ (Array.getElem?_eq_some_iff.1 HF6.out).1]; exact HF6.out)
        have HS7 : Hid (w7.heap[w.heap.size]? = some (.cells CS 60 (0, 0))) := Lib.hid (by rw [hb.block _ (Array.getElem?_eq_some_iff.1 HS6.out).1]; exact HS6.out)
        have HB7 := Lib.hid (Kit.step HB6.out hb)
        have HR7 := Lib.hid (HR6.out.later hb)
        have HMU2 := Lib.hid (mul_poly_any (tr s) M o7 (some ⟨g6, 0, none⟩) c7 c6 w7 hx (HR6.out.later hb) (by have := tr_le s; have := HML.out; omega))
        have HPL : Hid ((tr (mulL (tr s) M)).length ≤ 2000) := Lib.hid (by
          have h5 := tr_le (mulL (tr s) M)
          have h6 : (mulL (tr s) M).length = (tr s).length + M.length := by simp [mulL]
          have := tr_le s
          have := HML.out
          omega)
        obtain ⟨P, hP⟩ : ∃ P, tr (mulL (tr s) M) = P := ⟨_, rfl⟩
        rw [hP] at HMU2 HPL
        have HPEQ := Lib.hid hP
        clear hx hb hP HPO
        go_wp2_with fail
        refine HMU2.out.mono ?_; rintro e w8 ⟨g8, c8, rfl, hg8, hb, hr⟩
        have HF8 : Hid (w8.heap[w.heap.size + 1]? = some (.cells #[.int .i64 0, .slice none 0 0, .slice none 0 0] 44 (0, 0))) := Lib.hid (by rw [hb.block _ (Array.getElem?_eq_some_iff.1 HF7.out).1]; exact HF7.out)
        have HS8 : Hid (w8.heap[w.heap.size]? = some (.cells CS 60 (0, 0))) := Lib.hid (by rw [hb.block _ (Array.getElem?_eq_some_iff.1 HS7.out).1]; exact HS7.out)
        have HB8 := Lib.hid (Kit.step HB7.out hb)
        have HR8 := Lib.hid (HR7.out.later hb)
        have HLW := Lib.hid (low_any P 32 (some ⟨g8, 0, none⟩) c8 w8 hr (by have := HPL.out; omega))
        clear hb hr hg8 HMU2
        go_wp2_with fail
        refine HLW.out.mono ?_; rintro e w9 ⟨x, rfl, hx, hb⟩
        obtain ⟨o9, c9, rfl, hx⟩ := hx
        have HF9 : Hid (w9.heap[w.heap.size + 1]? = some (.cells #[.int .i64 0, .slice none 0 0, .slice none 0 0] 44 (0, 0))) := Lib.hid (by rw [hb.block _ (Array.getElem?_eq_some_iff.1 HF8.out).1]; exact HF8.out)
        have HS9 : Hid (w9.heap[w.heap.size]? = some (.cells CS 60 (0, 0))) := Lib.hid (by rw [hb.block _ (Array.getElem?_eq_some_iff.1 HS8.out).1]; exact HS8.out)
        have HB9 := Lib.hid (Kit.step HB8.out hb)
        have HR9 := Lib.hid (HR8.out.later hb)
        have HX9 := Lib.hid hx
        have hcc0 : w9.cell? ⟨w.heap.size + 1, 0, none⟩ = some (.int .i64 0) := by rw [cell_of_row _ _ 0 _ _ _ HF9.out]; rfl
        have hff0 : w9.frozen? ⟨w.heap.size + 1, 0, none⟩ = false := by unfold World.frozen?; rw [HF9.out]; rfl
        have hcc1 : w9.cell? ⟨w.heap.size + 1, 1, none⟩ = some (.slice none 0 0) := by rw [cell_of_row _ _ 1 _ _ _ HF9.out]; rfl
        have hff1 : w9.frozen? ⟨w.heap.size + 1, 1, none⟩ = false := by unfold World.frozen?; rw [HF9.out]; rfl
        have hcc2 : w9.cell? ⟨w.heap.size + 1, 2, none⟩ = some (.slice none 0 0) := by rw [cell_of_row _ _ 2 _ _ _ HF9.out]; rfl
        have hff2 : w9.frozen? ⟨w.heap.size + 1, 2, none⟩ = false := by unfold World.frozen?; rw [HF9.out]; rfl
        clear hx hb HLW
        obtain ⟨V, hV⟩ : ∃ V, tr (P.take (lowN 32 P.length)) = V := ⟨_, rfl⟩
        rw [hV] at HX9 ⊢
        have HVEQ := Lib.hid hV
        clear hV
        go_wp2_with fail
        refine bodyPost_ret (results_cell_row2 rfl _ _ (w.heap.size + 1) 44 #[.int .i64 (L : Int), .slice (some ⟨g6, 0, none⟩) M.length c6, .slice o9 V.length c9] (0, 0) _ rfl (fnd_set HF9.out _ _ _) Tryd.underlying44 rfl fnd_size) rfl ?_
        have hrf := HRF.out
        rw [← HGEQ.out] at hrf
        have hmeq : ertL C n z = M := by unfold ertL; rw [HGEQ.out]; exact HMEQ.out
        have hveq : evaL s C n z = V := by unfold evaL; rw [hmeq, HPEQ.out]; exact HVEQ.out
        refine ⟨HB9.out.trans (fnd_below (by omega) _ _ _), .inr ⟨HIN.out, .inr ⟨HDIS.out, .inr ⟨h32, C, L, hrf, .inr ⟨HN2.out, HN3.out, _, _, rfl, ?_, ?_⟩⟩⟩⟩⟩
        · rw [hmeq]
          exact ⟨_, _, rfl, fnd_row HF9.out HR9.out _ _ _⟩
        · rw [hveq]
          exact ⟨_, _, rfl, fnd_row HF9.out HX9.out _ _ _⟩
end Go.Proofs.YtgchfijeiggimaaDoor
