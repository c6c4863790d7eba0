/- The code's Fix and Only: a word is mended just if it can be, to the one code word that is near. -/
import Derived.Test.YtgchfijeiggimaaDoorCo
namespace Go.Proofs.YtgchfijeiggimaaDoor
open Go.RowKit
set_option linter.unusedVariables false
set_option linter.unusedSimpArgs false
def fxz : Value := .agg #[.slice none 0 0, .slice none 0 0, .int .i64 0]
def fx_v (A : Nat → Addr) (k : Nat) : Ending := .returned (.tuple #[fxz, .iface 128 (.pointer (some (A k)))])
def FxTo (W : List UInt8) (n : Nat) (z : List Int) (A : Nat → Addr) (w : World) (e : Ending) (w' : World) : Prop :=
  Below w.heap.size w w' ∧ (((∀ v H, ¬ Chg v W n z H) ∧ e = fx_v A 16) ∨ ∃ v H x1 x2, Chg v W n z H ∧ e = .returned (.tuple #[.agg #[x1, x2, .int .i64 (H.length : Int)], .nilIface]) ∧ RowV v x1 w' ∧ IntsV (dfL W v n) x2 w')
theorem fx_size : (Tryd.prog.info? 35).map (·.size) = some 3 := by kernel_rfl
theorem fx_set {w : World} {g : Nat} {a b c : Value} (h : w.heap[g]? = some (.cells #[a, b, c] 35 (0, 0))) (x y v : Value) : (((w.setCell ⟨g, 0, none⟩ x).setCell ⟨g, 1, none⟩ y).setCell ⟨g, 2, none⟩ v).heap[g]? = some (.cells #[x, y, v] 35 (0, 0)) := by
  have e1 := setCell_eq_setRow w g 0 _ _ _ x h
  have h1 := setRow_heap w g #[a, b, c] (#[a, b, c].setIfInBounds 0 x) _ _ h
  rw [← e1] at h1
  have e2 := setCell_eq_setRow _ g 1 _ _ _ y h1
  have h2 := setRow_heap _ g _ ((#[a, b, c].setIfInBounds 0 x).setIfInBounds 1 y) _ _ h1
  rw [← e2] at h2
  have e3 := setCell_eq_setRow _ g 2 _ _ _ v h2
  have h3 := setRow_heap _ g _ (((#[a, b, c].setIfInBounds 0 x).setIfInBounds 1 y).setIfInBounds 2 v) _ _ h2
  rw [← e3] at h3
  simpa using h3
theorem fx_cells {w : World} {g : Nat} {a b c : Value} (h : w.heap[g]? = some (.cells #[a, b, c] 35 (0, 0))) : w.cell? ⟨g, 0, none⟩ = some a ∧ w.cell? ⟨g, 1, none⟩ = some b ∧ w.cell? ⟨g, 2, none⟩ = some c ∧ w.frozen? ⟨g, 0, none⟩ = false ∧ w.frozen? ⟨g, 1, none⟩ = false ∧ w.frozen? ⟨g, 2, none⟩ = false :=
  ⟨by rw [cell_of_row _ _ 0 _ _ _ h]; rfl, by rw [cell_of_row _ _ 1 _ _ _ h]; rfl, by rw [cell_of_row _ _ 2 _ _ _ h]; rfl, by unfold World.frozen?; rw [h]; rfl, by unfold World.frozen?; rw [h]; rfl, by unfold World.frozen?; rw [h]; rfl⟩
theorem fx_keeps {w w' : World} {g : Nat} {fc : Array Value} (h : w.heap[g]? = some (.cells fc 35 (0, 0))) (hb : Below w.heap.size w w') : w'.heap[g]? = some (.cells fc 35 (0, 0)) := by
  rw [hb.block _ (Array.getElem?_eq_some_iff.1 h).1]; exact h
set_option maxRecDepth 100000 in
set_option maxHeartbeats 4000000 in
theorem cfix_size (m c cz k : Nat) (o oz : Option Addr) (w : World) (A : Nat → Addr) (hE : Er.Six w A) (h : ¬ (33 ≤ m ∧ m ≤ 255)) (hm : m ≤ 9223372036854775807) (Z : Array Value) (hZ : (bytesV zsyn).toArray = Z) :
    Calls Tryd.prog 9 #[.slice o m c, .slice oz k cz] w fun e w' => e = fx_v A 7 ∧ Below w.heap.size w w' := by
  obtain ⟨w1, hw1⟩ : ∃ w1, w.alloc (.cells #[.slice none 0 0, .slice none 0 0, .int .i64 0] 35) = w1 := ⟨_, rfl⟩
  have hb1 : Below w.heap.size w w1 := by rw [← hw1]; exact (Below.refl _ _).alloc (Nat.le_refl _) _
  have hg1 : w1.heap[w.heap.size]? = some (.cells #[.slice none 0 0, .slice none 0 0, .int .i64 0] 35 (0, 0)) := by rw [← hw1]; exact World.alloc_heap_new _ _
  have hof := of_size m c o w1 A (hE.later hb1) h hm
  rw [hZ] at hof
  have HOF := Lib.hid hof
  have HB1 := Lib.hid hb1
  have HG1 := Lib.hid hg1
  have HW1 := Lib.hid hw1
  have hzs := czero_syn
  rw [hZ] at hzs
  have hz1 := one_cell zsyn
  rw [hZ] at hz1
  have HZ1 := Lib.hid hz1
  have hz2 := csyn_size (ys := zsyn) (by simp [zsyn])
  rw [hZ] at hz2
  have HZ2 := Lib.hid hz2
  clear hE h hZ hb1 hg1 hw1 hof hz1 hz2
  go_enter Tryd.func9, Tryd.ntmps9
  go_wp2_with (rw [HW1.out])
  refine HOF.out.mono ?_; rintro e w2 ⟨rfl, hb2⟩
  have HB2 := Lib.hid (Kit.step HB1.out hb2)
  have HG2 := Lib.hid (fx_keeps HG1.out hb2)
  have HGa : Hid ((w2.alloc (.cells Z 60)).heap[w2.heap.size]? = some (.cells Z 60 (0, 0))) := Lib.hid (World.alloc_heap_new _ _)
  obtain ⟨w3, hw3⟩ : ∃ w3, (w2.alloc (.cells Z 60)).setRow w2.heap.size Z = w3 := ⟨_, rfl⟩
  have hb3 : Below w2.heap.size w2 w3 := by rw [← hw3]; exact ((Below.refl _ _).alloc (Nat.le_refl _) _).trans (below_setRow (Nat.le_refl _))
  have HB3 := Lib.hid (Kit.step HB2.out hb3)
  have HG3 := Lib.hid (fx_keeps HG2.out hb3)
  have HW3 := Lib.hid hw3
  obtain ⟨hcc0, hcc1, hcc2, hff0, hff1, hff2⟩ := fx_cells HG3.out
  clear hb2 hb3 hw3 HOF
  go_wp2_with (refine wpList_store_row rfl 60 (.tmp 6) (.tmp 13) rfl w2.heap.size Z rfl rfl 60 Z HGa.out HZ2.out rfl HZ1.out ?_; rw [HW3.out])
  refine bodyPost_ret (results_cell_row2 rfl _ _ w.heap.size 35 #[.slice none 0 0, .slice none 0 0, .int .i64 0] (0, 0) _ rfl (fx_set HG3.out _ _ _) Tryd.underlying35 rfl fx_size) rfl ?_
  exact ⟨rfl, HB3.out.trans ((((Below.refl _ _).setCell (p := ⟨w.heap.size, 0, none⟩) (Nat.le_refl _) _).setCell (p := ⟨w.heap.size, 1, none⟩) (Nat.le_refl _) _).setCell (p := ⟨w.heap.size, 2, none⟩) (Nat.le_refl _) _)⟩
/-- the code's Find refuses the erased places -/
structure ErCode (n : Int) (z : List Int) (A : Nat → Addr) (a : Nat) : Prop where
  find : ∀ (s : List UInt8) (v : World) (o : Option Addr) (c : Nat), s.length = 32 → RowIs v o (intsV z) c → Er.Six v A → Calls Tryd.prog 25 #[.agg (bytesV s).toArray, .int .i64 n, .slice o z.length c] v fun e w' => e = fe_v A a ∧ Below v.heap.size v w'
theorem er_code (m : Nat) (z : List Int) (A : Nat → Addr) (h1 : 33 ≤ m) (h2 : m ≤ 255) (hl : z.length ≤ 900) : (∃ a, ErCode (m : Int) z A a) ∨ EOk m z := by
  by_cases hbad : ∃ k, k < z.length ∧ (ci z k < 0 ∨ (m : Int) ≤ ci z k)
  · obtain ⟨k, hk, hkb⟩ := hbad
    refine .inl ⟨0, ⟨fun s v o c hs hr hE => (cfi_any s z m c o v A hs hr h1 h2 hl (fun _ => hE) (fun _ => hE) _ rfl).mono ?_⟩⟩
    rintro e w' ⟨hb, ⟨_, rfl⟩ | ⟨hin, _⟩⟩
    · exact ⟨rfl, hb⟩
    · have := hin k hk; omega
  · by_cases hdup : ∃ i j, j < i ∧ i < z.length ∧ ci z i = ci z j
    · obtain ⟨i, j, hj, hi, hij⟩ := hdup
      refine .inl ⟨9, ⟨fun s v o c hs hr hE => (cfi_any s z m c o v A hs hr h1 h2 hl (fun _ => hE) (fun _ => hE) _ rfl).mono ?_⟩⟩
      rintro e w' ⟨hb, ⟨hx, _⟩ | ⟨_, ⟨_, rfl⟩ | ⟨hd, _⟩⟩⟩
      · exact absurd hx hbad
      · exact ⟨rfl, hb⟩
      · exact absurd hij (hd i j hj hi)
    · by_cases h32 : 32 < z.length
      · refine .inl ⟨15, ⟨fun s v o c hs hr hE => (cfi_any s z m c o v A hs hr h1 h2 hl (fun _ => hE) (fun _ => hE) _ rfl).mono ?_⟩⟩
        rintro e w' ⟨hb, ⟨hx, _⟩ | ⟨_, ⟨hx, _⟩ | ⟨_, ⟨_, rfl⟩ | ⟨hle, _⟩⟩⟩⟩
        · exact absurd hx hbad
        · exact absurd hx hdup
        · exact ⟨rfl, hb⟩
        · omega
      · refine .inr ⟨fun k hk => ?_, fun i j hj hi h => hdup ⟨i, j, hj, hi, h⟩, by omega⟩
        have h : ¬ (ci z k < 0 ∨ (m : Int) ≤ ci z k) := fun h => hbad ⟨k, hk, h⟩
        omega
set_option maxRecDepth 100000 in
set_option maxHeartbeats 4000000 in
theorem cfix_bad (W : List UInt8) (z : List Int) (n c cz a : Nat) (o oz : Option Addr) (w : World) (A : Nat → Addr) (hW : RowIs w o (bytesV W) c) (hZ : RowIs w oz (intsV z) cz) (hn : W.length = n) (h33 : 33 ≤ n) (h255 : n ≤ 255) (hE : Er.Six w A) (hB : ErCode (n : Int) z A a)
    (Z : Array Value) (hZs : (bytesV zsyn).toArray = Z) (CS : Array Value) (hCS : (bytesV (synL W)).toArray = CS) :
    Calls Tryd.prog 9 #[.slice o n c, .slice oz z.length cz] w fun e w' => e = fx_v A a ∧ Below w.heap.size w w' := by
  obtain ⟨w1, hw1⟩ : ∃ w1, w.alloc (.cells #[.slice none 0 0, .slice none 0 0, .int .i64 0] 35) = w1 := ⟨_, rfl⟩
  have hb1 : Below w.heap.size w w1 := by rw [← hw1]; exact (Below.refl _ _).alloc (Nat.le_refl _) _
  have hg1 : w1.heap[w.heap.size]? = some (.cells #[.slice none 0 0, .slice none 0 0, .int .i64 0] 35 (0, 0)) := by rw [← hw1]; exact World.alloc_heap_new _ _
  have hof := of_any W o c w1 (hW.later hb1) (by omega)
  rw [hCS, hn] at hof
  have HOF := Lib.hid hof
  have HFI : Hid (∀ v, RowIs v oz (intsV z) cz → Er.Six v A → Calls Tryd.prog 25 #[.agg CS, .int .i64 (n : Int), .slice oz z.length cz] v fun e w' => e = fe_v A a ∧ Below v.heap.size v w') := Lib.hid fun v h1 h2 => by
    rw [← hCS]
    exact hB.find (synL W) v oz cz (by simp [synL]) h1 h2
  have HZ := Lib.hid hZ
  have HE := Lib.hid hE
  have HB1 := Lib.hid hb1
  have HG1 := Lib.hid hg1
  have HW1 := Lib.hid hw1
  have hzs := czero_syn
  rw [hZs] at hzs
  have hz1 := one_cell (synL W)
  rw [hCS] at hz1
  have HZ1 := Lib.hid hz1
  have hz2 := csyn_size (ys := synL W) (by simp [synL])
  rw [hCS] at hz2
  have HZ2 := Lib.hid hz2
  have HZC : Hid (Z.size = CS.size) := Lib.hid (by rw [← hZs, ← hCS]; simp [zsyn, synL])
  have hbw : n ≤ c := by have := hW.le; simp at this; omega
  have hbc : c ≤ 9223372036854775807 := by have := hW.cap; unfold maxLen at this; omega
  clear hE hW hZ hZs hCS hb1 hg1 hw1 hof hz1 hz2 hn h33 h255 hB
  go_enter Tryd.func9, Tryd.ntmps9
  go_wp2_with (rw [HW1.out])
  refine HOF.out.mono ?_; rintro e w2 ⟨rfl, hb2⟩
  have HB2 := Lib.hid (Kit.step HB1.out hb2)
  have HG2 := Lib.hid (fx_keeps HG1.out hb2)
  have HGa : Hid ((w2.alloc (.cells Z 60)).heap[w2.heap.size]? = some (.cells Z 60 (0, 0))) := Lib.hid (World.alloc_heap_new _ _)
  obtain ⟨w3, hw3⟩ : ∃ w3, (w2.alloc (.cells Z 60)).setRow w2.heap.size CS = w3 := ⟨_, rfl⟩
  have hb3 : Below w2.heap.size w2 w3 := by rw [← hw3]; exact ((Below.refl _ _).alloc (Nat.le_refl _) _).trans (below_setRow (Nat.le_refl _))
  have HS3 : Hid (w3.heap[w2.heap.size]? = some (.cells CS 60 (0, 0))) := Lib.hid (by rw [← hw3]; exact setRow_heap _ _ _ _ _ _ HGa.out)
  have HB3 := Lib.hid (Kit.step HB2.out hb3)
  have HG3 := Lib.hid (fx_keeps HG2.out hb3)
  have HW3 := Lib.hid hw3
  clear hb2 hb3 hw3 HOF
  go_wp2_with (first | (refine wpList_store_row rfl 60 (.tmp 6) (.tmp 13) rfl w2.heap.size CS rfl rfl 60 Z HGa.out HZ2.out HZC.out HZ1.out ?_; rw [HW3.out]) | refine wpList_load_row rfl 60 (.tmp 6) rfl w2.heap.size rfl 60 CS (0, 0) _ HS3.out csyn_under rfl HZ2.out ?_)
  refine (HFI.out w3 (HZ.out.later HB3.out) (HE.out.later HB3.out)).mono ?_; rintro e w4 ⟨rfl, hb4⟩
  unfold fe_v fz
  have hb5 : Below w4.heap.size w4 (w4.alloc (.cells #[.int .i64 0, .slice none 0 0, .slice none 0 0] 44)) := (Below.refl _ _).alloc (Nat.le_refl _) _
  have HB5 := Lib.hid (Kit.step (Kit.step HB3.out hb4) hb5)
  have HG5 := Lib.hid (fx_keeps (fx_keeps HG3.out hb4) hb5)
  obtain ⟨hcc0, hcc1, hcc2, hff0, hff1, hff2⟩ := fx_cells HG5.out
  clear hb4 hb5
  go_wp2_with fail
  refine bodyPost_ret (results_cell_row2 rfl _ _ w.heap.size 35 #[.slice none 0 0, .slice none 0 0, .int .i64 0] (0, 0) _ rfl (fx_set HG5.out _ _ _) Tryd.underlying35 rfl fx_size) rfl ?_
  exact ⟨rfl, HB5.out.trans ((((Below.refl _ _).setCell (p := ⟨w.heap.size, 0, none⟩) (Nat.le_refl _) _).setCell (p := ⟨w.heap.size, 1, none⟩) (Nat.le_refl _) _).setCell (p := ⟨w.heap.size, 2, none⟩) (Nat.le_refl _) _)⟩
theorem tl_self (G : List UInt8) : tl (tr G) (tr G).length = (tr G).length := by rw [← tr_length, tr_tr]
theorem below_fx {w0 w : World} {g : Nat} (hb : Below w0.heap.size w0 w) (hg : w0.heap.size ≤ g) (x y v : Value) : Below w0.heap.size w0 (((w.setCell ⟨g, 0, none⟩ x).setCell ⟨g, 1, none⟩ y).setCell ⟨g, 2, none⟩ v) :=
  hb.trans ((((Below.refl _ _).setCell (p := ⟨g, 0, none⟩) hg _).setCell (p := ⟨g, 1, none⟩) hg _).setCell (p := ⟨g, 2, none⟩) hg _)
/-- a row beside the block of a result -/
theorem fx_row {w : World} {g : Nat} {o : Option Addr} {z : List UInt8} {cap : Nat} {q : Array Value} (h : w.heap[g]? = some (.cells #[.slice none 0 0, .slice none 0 0, .int .i64 0] 35 (0, 0))) (hr : RowIs w o (bytesV z) cap) : RowIs (w.setRow g q) o (bytesV z) cap :=
  ⟨hr.le, hr.cap, hr.nil, fun h0 => by
    obtain ⟨p, off, e, hlt, hc⟩ := hr.cells h0
    have h1 := hc 0 _ (bytesV_get z 0 (by simpa using h0))
    have hne : p ≠ g := fun e => by
      subst e
      have h2 := cell_of_row w p (off + 0) _ _ _ h
      rw [h1] at h2
      rcases off with _ | _ | _ | k <;> simp at h2
    refine ⟨p, off, e, by simpa [World.setRow] using hlt, fun i v hv => (World.cell?_of_block (setRow_other _ _ _ _ hne)).trans (hc i v hv)⟩⟩
/-- a list of numbers beside it -/
theorem fx_ints {w : World} {g B : Nat} {x : Value} {z : List Int} {q : Array Value} (hv : w.ownsRow B 3 1 x z.length (intsV z)) (hB : g < B) : IntsV z x (w.setRow g q) := by
  obtain ⟨o, c, rfl, hr⟩ := owns_ints hv rfl
  refine ⟨o, c, rfl, hr.le, hr.cap, hr.nil, fun h0 => ?_⟩
  obtain ⟨p, off, e, hlt, hc⟩ := hr.cells h0
  have hp := (World.ownsRow.lt hv p (by rw [e]; rfl)).1
  have hne : p ≠ g := by omega
  exact ⟨p, off, e, by simpa [World.setRow] using hlt, fun i v hv => (World.cell?_of_block (setRow_other _ _ _ _ hne)).trans (hc i v hv)⟩
set_option maxRecDepth 100000 in
set_option maxHeartbeats 8000000 in
theorem cfix_any (W : List UInt8) (z : List Int) (n c cz : Nat) (o oz : Option Addr) (w : World) (A : Nat → Addr) (hW : RowIs w o (bytesV W) c) (hZ : RowIs w oz (intsV z) cz) (hn : W.length = n) (h33 : 33 ≤ n) (h255 : n ≤ 255) (hok : EOk n z)
    (hE : (∀ v H, ¬ Chg v W n z H) → Er.Six w A) (Z : Array Value) (hZs : (bytesV zsyn).toArray = Z) (CS : Array Value) (hCS : (bytesV (synL W)).toArray = CS) :
    Calls Tryd.prog 9 #[.slice o n c, .slice oz z.length cz] w (FxTo W n z A w) := by
  obtain ⟨w1, hw1⟩ : ∃ w1, w.alloc (.cells #[.slice none 0 0, .slice none 0 0, .int .i64 0] 35) = w1 := ⟨_, rfl⟩
  have hb1 : Below w.heap.size w w1 := by rw [← hw1]; exact (Below.refl _ _).alloc (Nat.le_refl _) _
  have hg1 : w1.heap[w.heap.size]? = some (.cells #[.slice none 0 0, .slice none 0 0, .int .i64 0] 35 (0, 0)) := by rw [← hw1]; exact World.alloc_heap_new _ _
  have hof := of_any W o c w1 (hW.later hb1) (by omega)
  rw [hCS, hn] at hof
  have HOF := Lib.hid hof
  have hz32 := hok.2.2
  have HLO : Hid ((∃ C L, RF (forL (synL W) (Gf.locL (xsL n z))) C L ∧ (32 < 2 * L + z.length ∨ (tr C).length ≤ L)) → ∀ v H, ¬ Chg v W n z H) := Lib.hid fun ⟨C, L, hrf, hc⟩ v H h => by
    obtain ⟨h1, h2, _⟩ := h.roots hrf
    have := h.few
    omega
  have HNO : Hid (∀ C L, RF (forL (synL W) (Gf.locL (xsL n z))) C L → (srP (ertL C n z) n n).length ≠ L + z.length → ∀ v H, ¬ Chg v W n z H) := Lib.hid fun C L hrf hc v H h => hc (h.roots hrf).2.2
  have HFI : Hid (∀ v, Below w.heap.size w v → Calls Tryd.prog 25 #[.agg CS, .int .i64 (n : Int), .slice oz z.length cz] v (CFiTo (synL W) n z A v)) := Lib.hid fun v hb => 
    cfi_any (synL W) z n cz oz v A (by simp [synL]) (hZ.later hb) h33 h255 (by omega) (fun h => absurd hok h) (fun h => (hE (HLO.out h)).later hb) CS hCS
  have HW := Lib.hid hW
  have HE := Lib.hid hE
  have HN := Lib.hid hn
  have HOK := Lib.hid hok
  have h33 := Lib.hid h33
  have h255 := Lib.hid h255
  have HB1 := Lib.hid hb1
  have HG1 := Lib.hid hg1
  have HW1 := Lib.hid hw1
  have hzs := czero_syn
  rw [hZs] at hzs
  have hz1 := one_cell (synL W)
  rw [hCS] at hz1
  have HZ1 := Lib.hid hz1
  have hz2 := csyn_size (ys := synL W) (by simp [synL])
  rw [hCS] at hz2
  have HZ2 := Lib.hid hz2
  have HZC : Hid (Z.size = CS.size) := Lib.hid (by rw [← hZs, ← hCS]; simp [zsyn, synL])
  have hbw : n ≤ c := by have := hW.le; simp at this; omega
  have hbc : c ≤ 9223372036854775807 := by have := hW.cap; unfold maxLen at this; omega
  clear hE hW hZ hZs hCS hb1 hg1 hw1 hof hz1 hz2 hn hok hz32
  go_enter Tryd.func9, Tryd.ntmps9
  go_wp2_with (rw [HW1.out])
  refine HOF.out.mono ?_; rintro e w2 ⟨rfl, hb2⟩
  have HB2 := Lib.hid (Kit.step HB1.out hb2)
  have HG2 := Lib.hid (fx_keeps HG1.out hb2)
  have HGa : Hid ((w2.alloc (.cells Z 60)).heap[w2.heap.size]? = some (.cells Z 60 (0, 0))) := Lib.hid (World.alloc_heap_new _ _)
  obtain ⟨w3, hw3⟩ : ∃ w3, (w2.alloc (.cells Z 60)).setRow w2.heap.size CS = w3 := ⟨_, rfl⟩
  have hb3 : Below w2.heap.size w2 w3 := by rw [← hw3]; exact ((Below.refl _ _).alloc (Nat.le_refl _) _).trans (below_setRow (Nat.le_refl _))
  have HS3 : Hid (w3.heap[w2.heap.size]? = some (.cells CS 60 (0, 0))) := Lib.hid (by rw [← hw3]; exact setRow_heap _ _ _ _ _ _ HGa.out)
  have HB3 := Lib.hid (Kit.step HB2.out hb3)
  have HG3 := Lib.hid (fx_keeps HG2.out hb3)
  have HW3 := Lib.hid hw3
  clear hb2 hb3 hw3 HOF
  go_wp2_with (first | (refine wpList_store_row rfl 60 (.tmp 6) (.tmp 13) rfl w2.heap.size CS rfl rfl 60 Z HGa.out HZ2.out HZC.out HZ1.out ?_; rw [HW3.out]) | refine wpList_load_row rfl 60 (.tmp 6) rfl w2.heap.size rfl 60 CS (0, 0) _ HS3.out csyn_under rfl HZ2.out ?_)
  refine (HFI.out w3 HB3.out).mono ?_; rintro e w4 ⟨hb4, hto⟩
  have HB4 := Lib.hid (Kit.step HB3.out hb4)
  have HG4 := Lib.hid (fx_keeps HG3.out hb4)
  clear hb4
  rcases hto with ⟨⟨k, hk, h⟩, _⟩ | ⟨_, ⟨⟨i, j, hj, hi, h⟩, _⟩ | ⟨_, ⟨h, _⟩ | ⟨h32, C, L, hrf, hto⟩⟩⟩
  · have := HOK.out.1 k hk; omega
  · exact absurd h (HOK.out.2.1 i j hj hi)
  · have := HOK.out.2.2; omega
  rcases hto with ⟨hlost, rfl⟩ | ⟨hn2, hn3, x1, x2, rfl, hx1, hx2⟩
  · have HL := Lib.hid (HLO.out ⟨C, L, hrf, hlost⟩)
    unfold fe_v fz
    have hb5 : Below w4.heap.size w4 (w4.alloc (.cells #[.int .i64 0, .slice none 0 0, .slice none 0 0] 44)) := (Below.refl _ _).alloc (Nat.le_refl _) _
    have HB5 := Lib.hid (Kit.step HB4.out hb5)
    have HG5 := Lib.hid (fx_keeps HG4.out hb5)
    obtain ⟨hcc0, hcc1, hcc2, hff0, hff1, hff2⟩ := fx_cells HG5.out
    clear hb5 hlost hrf
    go_wp2_with fail
    refine bodyPost_ret (results_cell_row2 rfl _ _ w.heap.size 35 #[.slice none 0 0, .slice none 0 0, .int .i64 0] (0, 0) _ rfl (fx_set HG5.out _ _ _) Tryd.underlying35 rfl fx_size) rfl ?_
    exact ⟨below_fx HB5.out (Nat.le_refl _) _ _ _, .inl ⟨HL.out, rfl⟩⟩
  · obtain ⟨G, hG⟩ : ∃ G, ertL C n z = G := ⟨_, rfl⟩
    obtain ⟨O, hO⟩ : ∃ O, evaL (synL W) C n z = O := ⟨_, rfl⟩
    have hgl := ert_len (n := n) (z := z) hrf.len hn3
    have hgt : tl G G.length = L + z.length + 1 := by
      rw [← hgl, ← hG]
      unfold ertL
      exact tl_self _
    have hno := HNO.out C L hrf
    have hro := fun h => roots_reg hrf HN.out h255.out HOK.out hn2 hn3 h
    have hfo : ∀ H, Reg W C n L z H → All n z H (srP G n n) → (∀ p ∈ srP G n n, evL (slopeL G) (vi n p) ≠ 0) ∧ Chg (putW W (amS G O n)) W n z H := fun H h1 h2 => by
      rw [← hG] at h2 ⊢
      obtain ⟨h3, h4⟩ := h1.forney h2
      refine ⟨h3, ?_⟩
      rw [← hO]
      exact h1.chg h2 _ (by unfold amS; rw [List.map_map]; exact List.map_id _) h4
    rw [hG] at hx1 hgl hno hro
    rw [hO] at hx2
    obtain ⟨oG, cG, rfl, hx1⟩ := hx1
    obtain ⟨oO, cO, rfl, hx2⟩ := hx2
    obtain ⟨w5, hw5⟩ : ∃ w5, w4.alloc (.cells #[.int .i64 (L : Int), .slice oG G.length cG, .slice oO O.length cO] 44) = w5 := ⟨_, rfl⟩
    have hb5 : Below w4.heap.size w4 w5 := by rw [← hw5]; exact (Below.refl _ _).alloc (Nat.le_refl _) _
    have hf5 : w5.heap[w4.heap.size]? = some (.cells #[.int .i64 (L : Int), .slice oG G.length cG, .slice oO O.length cO] 44 (0, 0)) := by rw [← hw5]; exact World.alloc_heap_new _ _
    have HB5 := Lib.hid (Kit.step HB4.out hb5)
    have HG5 := Lib.hid (fx_keeps HG4.out hb5)
    have HW5 := Lib.hid hw5
    have HF5 := Lib.hid hf5
    have hGl : G.length ≤ 1000 := by omega
    have HX1 := Lib.hid (hx1.later hb5)
    have HX2 := Lib.hid (hx2.later hb5)
    by_cases hS : (srP G n n).length = L + z.length
    · obtain ⟨H, hr, hall⟩ := hro hS
      have hHL := hr.len
      obtain ⟨hne, hchg⟩ := hfo H hr hall
      have HCO := Lib.hid (corrected_ok W G O (.int .i64 (L : Int)) o oG oO c cG cO n w5 (HW.out.later HB5.out) HX1.out HX2.out HN.out h33.out h255.out hGl (by omega) hne)
      have HCH := Lib.hid hchg
      have HHL := Lib.hid hHL
      obtain ⟨R, hR⟩ : ∃ R, putW W (amS G O n) = R := ⟨_, rfl⟩
      rw [hR] at HCO HCH
      have hRl : R.length = n := by rw [← hR, putW_length, HN.out]
      have HRL := Lib.hid hRl
      clear hG hO hgl hgt hno hro hfo hx1 hx2 hb5 hf5 hw5 hGl hS hr hall hHL hne hchg hrf hn2 hn3 h32 hR hRl
      obtain ⟨gf, hgf⟩ : ∃ gf, w4.heap.size = gf := ⟨_, rfl⟩
      rw [hgf] at HF5
      go_wp2_with (first | rw [HW5.out] | refine wpList_load_row rfl 44 (.tmp 8) rfl gf rfl 44 _ (0, 0) _ HF5.out Tryd.underlying44 rfl fnd_size ?_)
      try rw [HW5.out]
      refine HCO.out.mono ?_; rintro e w6 ⟨xR, rfl, ⟨oR, cR, rfl, hR6⟩, hb6⟩
      rw [HRL.out]
      have HB6 := Lib.hid (Kit.step HB5.out hb6)
      have HG6 := Lib.hid (fx_keeps HG5.out hb6)
      have HF6 := Lib.hid (found_keeps HF5.out hb6)
      have HR6 := Lib.hid hR6
      have HDF : Hid (∀ v, Below w6.heap.size w6 v → Calls Tryd.prog 27 #[.slice o n c, .slice oR n cR] v fun e w' => ∃ x, e = .returned x ∧ w'.ownsRow v.heap.size 3 1 x (dfL W R n).length (intsV (dfL W R n)) ∧ Below v.heap.size v w') := Lib.hid fun v hb => by
        have := differ_own W R o oR c cR v (HW.out.later (Kit.step HB6.out hb)) (hR6.later hb) (by rw [HN.out, HRL.out]) (by rw [HN.out]; have := h255.out; omega)
        rwa [HN.out, HRL.out] at this
      have hlc : n ≤ cR := by have := hR6.le; simp [HRL.out] at this; omega
      have hlc2 : cR ≤ 9223372036854775807 := by have := hR6.cap; unfold maxLen at this; omega
      have hcf := (found_cell (show w6.drew.heap[gf]? = _ from HF6.out)).1
      have HBD : Hid (Below w6.heap.size w6 w6.drew) := Lib.hid ⟨rfl, rfl, rfl, Nat.le_refl _, fun _ _ => rfl⟩
      have HGL : Hid (w.heap.size < w6.drew.heap.size) := Lib.hid (by
        have h1 := (Array.getElem?_eq_some_iff.1 HG6.out).1
        exact h1)
      clear hb6 hR6 HCO
      go_wp2_with fail
      refine wp_region_any (by kernel_rfl) ?_
      change wpAny _ _ _ _ _ _ _ (World.drew _)
      refine wpAny_take (i := 0) (v := ?va1) rfl (by kernel_rfl) (by kernel_rfl) (by kernel_rfl) (fun _ _ _ h => h) (Or.inl ⟨by rfl, ?ha1⟩) ?ra1
      case ha1 => (intro w; (go_simp <;> with_reducible rfl))
      refine wpAny_take (i := 1) (v := ?va2) rfl (by kernel_rfl) (by kernel_rfl) (by kernel_rfl) (fun _ _ _ h => h) (Or.inl ⟨by rfl, ?ha2⟩) ?ra2
      case ha2 => (intro w; (go_simp <;> with_reducible rfl))
      refine wpAny_take (i := 2) (v := ?va3) rfl (by kernel_rfl) (by kernel_rfl) (by kernel_rfl) (fun _ _ _ h => h) (Or.inl ⟨by rfl, ?ha3⟩) ?ra3
      case ha3 => (intro w; (go_simp <;> with_reducible rfl))
      refine wpAny_take (i := 4) (v := ?va4) rfl (by kernel_rfl) (by kernel_rfl) (by kernel_rfl) (fun _ _ _ h => h) (Or.inl ⟨by rfl, ?ha4⟩) ?ra4
      case ha4 => (intro w; (go_simp <;> with_reducible rfl))
      refine wpAny_ready (rs := [3, 5]) (by kernel_rfl) (by simp) ?_
      refine AllReady.cons rfl (fun K hK => ?_) (AllReady.cons rfl (fun K hK => ?_) AllReady.nil)
      · go_simp
        refine (HDF.out _ HBD.out).mono ?_; rintro e w7 ⟨x7, rfl, hv7, hb7⟩
        obtain ⟨o7, c7, rfl, _⟩ := owns_ints hv7 rfl
        have hcf7 := (found_cell (found_keeps (show w6.drew.heap[gf]? = _ from HF6.out) hb7)).1
        have HV7 := Lib.hid hv7
        have HG7 := Lib.hid (fx_keeps (show w6.drew.heap[w.heap.size]? = _ from HG6.out) hb7)
        have HB7 := Lib.hid (Kit.step (Kit.dn HB6.out 1) hb7)
        have HR7 := Lib.hid ((HR6.out.later HBD.out).later hb7)
        clear hv7 hb7
        refine hK _ _ ?_
        clear hK K
        refine wpAny_ready (rs := [5]) (by kernel_rfl) (by simp) ?_
        refine AllReady.cons rfl (fun K hK => ?_) AllReady.nil
        go_simp
        refine hK _ _ ?_
        clear hK K
        refine wpAny_ready (rs := [6]) (by kernel_rfl) (by simp) ?_
        refine AllReady.cons rfl (fun K hK => ?_) AllReady.nil
        go_simp
        refine hK _ _ ?_
        clear hK K
        refine wpAny_ready (rs := [7]) (by kernel_rfl) (by simp) ?_
        refine AllReady.cons rfl (fun K hK => ?_) AllReady.nil
        rw [if_pos (by rfl)]
        refine wp_store_row 35 (.tmp 4) (.tmp 47) rfl w.heap.size #[.slice oR n cR, .slice o7 (dfL W R n).length c7, .int .i64 (L : Int)] rfl rfl 35 _ HG7.out fx_size rfl (by simp [Value.oneCell']) (hK _ _ ?_)
        clear hK K
        refine wpAny_ready (rs := [8]) (by kernel_rfl) (by simp) ?_
        refine AllReady.cons rfl (fun K hK => ?_) AllReady.nil
        go_simp
        refine hK _ _ ?_
        clear hK K
        refine wpAny_done (by kernel_rfl) ?_ _
        go_wp2_with fail
        refine bodyPost_ret (results_cell_row2 rfl _ _ w.heap.size 35 #[.slice oR n cR, .slice o7 (dfL W R n).length c7, .int .i64 (L : Int)] (0, 0) _ rfl (setRow_heap _ _ _ _ _ _ HG7.out) Tryd.underlying35 rfl fx_size) rfl ?_
        refine ⟨HB7.out.trans (below_setRow (Nat.le_refl _)), .inr ⟨R, H, _, _, HCH.out, by rw [HHL.out]; rfl, ⟨oR, cR, by rw [HRL.out], fx_row HG7.out HR7.out⟩, fx_ints HV7.out HGL.out⟩⟩
      · go_simp
        refine hK _ _ ?_
        clear hK K
        refine wpAny_ready (rs := [3]) (by kernel_rfl) (by simp) ?_
        refine AllReady.cons rfl (fun K hK => ?_) AllReady.nil
        go_simp
        refine (HDF.out _ HBD.out).mono ?_; rintro e w7 ⟨x7, rfl, hv7, hb7⟩
        obtain ⟨o7, c7, rfl, _⟩ := owns_ints hv7 rfl
        have HV7 := Lib.hid hv7
        have HG7 := Lib.hid (fx_keeps (show w6.drew.heap[w.heap.size]? = _ from HG6.out) hb7)
        have HB7 := Lib.hid (Kit.step (Kit.dn HB6.out 1) hb7)
        have HR7 := Lib.hid ((HR6.out.later HBD.out).later hb7)
        clear hv7 hb7
        refine hK _ _ ?_
        clear hK K
        refine wpAny_ready (rs := [6]) (by kernel_rfl) (by simp) ?_
        refine AllReady.cons rfl (fun K hK => ?_) AllReady.nil
        go_simp
        refine hK _ _ ?_
        clear hK K
        refine wpAny_ready (rs := [7]) (by kernel_rfl) (by simp) ?_
        refine AllReady.cons rfl (fun K hK => ?_) AllReady.nil
        rw [if_pos (by rfl)]
        refine wp_store_row 35 (.tmp 4) (.tmp 47) rfl w.heap.size #[.slice oR n cR, .slice o7 (dfL W R n).length c7, .int .i64 (L : Int)] rfl rfl 35 _ HG7.out fx_size rfl (by simp [Value.oneCell']) (hK _ _ ?_)
        clear hK K
        refine wpAny_ready (rs := [8]) (by kernel_rfl) (by simp) ?_
        refine AllReady.cons rfl (fun K hK => ?_) AllReady.nil
        go_simp
        refine hK _ _ ?_
        clear hK K
        refine wpAny_done (by kernel_rfl) ?_ _
        go_wp2_with fail
        refine bodyPost_ret (results_cell_row2 rfl _ _ w.heap.size 35 #[.slice oR n cR, .slice o7 (dfL W R n).length c7, .int .i64 (L : Int)] (0, 0) _ rfl (setRow_heap _ _ _ _ _ _ HG7.out) Tryd.underlying35 rfl fx_size) rfl ?_
        refine ⟨HB7.out.trans (below_setRow (Nat.le_refl _)), .inr ⟨R, H, _, _, HCH.out, by rw [HHL.out]; rfl, ⟨oR, cR, by rw [HRL.out], fx_row HG7.out HR7.out⟩, fx_ints HV7.out HGL.out⟩⟩
    · have hnc := hno hS
      have HNC := Lib.hid hnc
      have hE5 := (HE.out hnc).later HB5.out
      have HCO := Lib.hid (corrected_lost W G O (.int .i64 (L : Int)) o oG oO c cG cO n w5 (HW.out.later HB5.out) HX1.out HX2.out HN.out h33.out h255.out hGl (by omega) _ _ hE5.c16)
      clear hG hO hgl hgt hno hro hfo hx1 hx2 hb5 hf5 hw5 hGl hS hrf hn2 hn3 h32 hnc hE5
      obtain ⟨gf, hgf⟩ : ∃ gf, w4.heap.size = gf := ⟨_, rfl⟩
      rw [hgf] at HF5
      go_wp2_with (first | rw [HW5.out] | refine wpList_load_row rfl 44 (.tmp 8) rfl gf rfl 44 _ (0, 0) _ HF5.out Tryd.underlying44 rfl fnd_size ?_)
      try rw [HW5.out]
      refine HCO.out.mono ?_; rintro e w6 ⟨rfl, hb6⟩
      have HB6 := Lib.hid (Kit.step HB5.out hb6)
      have HG6 := Lib.hid (fx_keeps HG5.out hb6)
      obtain ⟨hcc0, hcc1, hcc2, hff0, hff1, hff2⟩ := fx_cells HG6.out
      clear hb6 HCO
      go_wp2_with fail
      refine bodyPost_ret (results_cell_row2 rfl _ _ w.heap.size 35 #[.slice none 0 0, .slice none 0 0, .int .i64 0] (0, 0) _ rfl (fx_set HG6.out _ _ _) Tryd.underlying35 rfl fx_size) rfl ?_
      exact ⟨below_fx HB6.out (Nat.le_refl _) _ _ _, .inl ⟨HNC.out, rfl⟩⟩
/-- what Only answers: a word with no other places wrong -/
def OnTo (W : List UInt8) (n : Nat) (z : List Int) (A : Nat → Addr) (w : World) (e : Ending) (w' : World) : Prop :=
  Below w.heap.size w w' ∧ (((∀ v H, Chg v W n z H → H.length ≠ 0) ∧ e = .returned (.tuple #[.slice none 0 0, .iface 128 (.pointer (some (A 16)))])) ∨ ∃ v x1, Chg v W n z [] ∧ e = .returned (.tuple #[x1, .nilIface]) ∧ RowV v x1 w')
theorem only_of_fx (u : Value) (ty : TypeId) (m c cz k : Nat) (o oz : Option Addr) (w : World) (hfx : Calls Tryd.prog 9 #[.slice o m c, .slice oz k cz] w fun e w' => e = .returned (.tuple #[fxz, .iface ty u]) ∧ Below w.heap.size w w') :
    Calls Tryd.prog 21 #[.slice o m c, .slice oz k cz] w fun e w' => e = .returned (.tuple #[.slice none 0 0, .iface ty u]) ∧ Below w.heap.size w w' := by
  have HFX := Lib.hid hfx
  clear hfx
  go_enter Tryd.func21, Tryd.ntmps21
  go_wp2_with fail
  refine HFX.out.mono ?_; rintro e w1 ⟨rfl, hb⟩
  have HB := Lib.hid (hb.alloc hb.size (.cells #[.slice none 0 0, .slice none 0 0, .int .i64 0] 35))
  unfold fxz
  clear hb HFX
  go_wp2_with fail
  go_ret2
  exact ⟨rfl, HB.out⟩
theorem ne_nil_of {v W : List UInt8} {n : Nat} {z : List Int} {H : List Nat} (h : Chg v W n z H) (h0 : H.length = 0) : Chg v W n z [] := by
  have : H = [] := List.eq_nil_of_length_eq_zero h0
  rwa [this] at h
set_option maxRecDepth 100000 in
set_option maxHeartbeats 2000000 in
theorem only_any (W : List UInt8) (z : List Int) (n c cz : Nat) (o oz : Option Addr) (w : World) (A : Nat → Addr) (hW : RowIs w o (bytesV W) c) (hZ : RowIs w oz (intsV z) cz) (hn : W.length = n) (h33 : 33 ≤ n) (h255 : n ≤ 255) (hok : EOk n z)
    (hE : (∀ v, ¬ Chg v W n z []) → Er.Six w A) :
    Calls Tryd.prog 21 #[.slice o n c, .slice oz z.length cz] w (OnTo W n z A w) := by
  have HFX := Lib.hid (cfix_any W z n c cz o oz w A hW hZ hn h33 h255 hok (fun h => hE fun v => h v []) _ rfl _ rfl)
  have HE := Lib.hid hE
  have hbw : n ≤ c := by have := hW.le; simp at this; omega
  have hbc : c ≤ 9223372036854775807 := by have := hW.cap; unfold maxLen at this; omega
  have hzw : z.length ≤ cz := by have := hZ.le; simp at this; omega
  have hzc : cz ≤ 9223372036854775807 := by have := hZ.cap; unfold maxLen at this; omega
  clear hW hZ hn hok hE
  go_enter Tryd.func21, Tryd.ntmps21
  go_wp2_with fail
  refine HFX.out.mono ?_; rintro e w1 ⟨hb, ⟨hno, rfl⟩ | ⟨v, H, x1, x2, hc, rfl, hr, hi⟩⟩
  · have HB := Lib.hid (hb.alloc hb.size (.cells #[.slice none 0 0, .slice none 0 0, .int .i64 0] 35))
    have HNO := Lib.hid hno
    unfold fx_v fxz
    clear hb hno HFX
    go_wp2_with fail
    go_ret2
    exact ⟨HB.out, .inl ⟨fun v H h => absurd h (HNO.out v H), rfl⟩⟩
  · obtain ⟨o1, c1, rfl, hr⟩ := hr
    obtain ⟨o2, c2, rfl, hi⟩ := hi
    have hHl : H.length ≤ 16 := by have := hc.few; omega
    obtain ⟨w2, hw2⟩ : ∃ w2, w1.alloc (.cells #[.slice o1 v.length c1, .slice o2 (dfL W v n).length c2, .int .i64 (H.length : Int)] 35) = w2 := ⟨_, rfl⟩
    have hb2 : Below w1.heap.size w1 w2 := by rw [← hw2]; exact (Below.refl _ _).alloc (Nat.le_refl _) _
    have hg2 : w2.heap[w1.heap.size]? = some (.cells #[.slice o1 v.length c1, .slice o2 (dfL W v n).length c2, .int .i64 (H.length : Int)] 35 (0, 0)) := by rw [← hw2]; exact World.alloc_heap_new _ _
    obtain ⟨hcc0, _, hcc2, _⟩ := fx_cells hg2
    have HB2 := Lib.hid (Kit.step hb hb2)
    have HR2 := Lib.hid (hr.later hb2)
    have HW2 := Lib.hid hw2
    have HC := Lib.hid hc
    by_cases h0 : H.length = 0
    · have hd : decide ((0 : Int) < (H.length : Int)) = false := decide_eq_false (by omega)
      have hd' : decide (0 < H.length) = false := decide_eq_false (by omega)
      have HC0 := Lib.hid (ne_nil_of hc h0)
      clear hb hb2 hg2 hw2 hc hr hi HFX h0
      go_wp2_with (rw [HW2.out])
      go_ret2
      exact ⟨HB2.out, .inr ⟨v, _, HC0.out, rfl, ⟨o1, c1, rfl, HR2.out⟩⟩⟩
    · have hd : decide ((0 : Int) < (H.length : Int)) = true := decide_eq_true (by omega)
      have hd' : decide (0 < H.length) = true := decide_eq_true (by omega)
      have hno : ∀ v' H', Chg v' W n z H' → H'.length ≠ 0 := fun v' H' h h2 => by
        have e := hc.uniq h
        subst e
        have := hc.same h
        omega
      have hE2 := ((HE.out fun v' h => hno _ _ h rfl).later HB2.out).c16
      have HNO := Lib.hid hno
      clear hb hb2 hg2 hw2 hc hr hi HFX h0 hno
      go_wp2_with (rw [HW2.out])
      go_quiet (fail)
      go_wp2
      go_ret2
      exact ⟨HB2.out.trans ⟨rfl, rfl, rfl, Nat.le_refl _, fun _ _ => rfl⟩, .inl ⟨HNO.out, rfl⟩⟩
end Go.Proofs.YtgchfijeiggimaaDoor
