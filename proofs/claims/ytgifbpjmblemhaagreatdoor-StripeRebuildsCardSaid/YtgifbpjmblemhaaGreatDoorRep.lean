/- The code's parts of mending: an inverse, whether a size fits, the places of a locator's roots, the amount at a place, what is left of the parity. The code's amount at a place, and what is left of the parity. The code's mending of a word by a locator and an evaluator. The code's Fix and Only: a word is mended just if it can be, to the one code word that is near. The answer of law05 to its example. -/
import Derived.Test.YtgifbpjmblemhaaGreatDoorFq
import Derived.Test.YtgifbpjmblemhaaGreatDoorIns
import Derived.Test.YtgifbpjmblemhaaGreatDoorErr
import Derived.Test.YtgifbpjmblemhaaGreatDoorApw
import Derived.BigQuiet
import Derived.Test.YtgifbpjmblemhaaGreatDoorPe
import Derived.Test.YtgifbpjmblemhaaGreatDoorLph
namespace Go.Proofs.YtgifbpjmblemhaaGreatDoor
open Go.RowKit
set_option linter.unusedVariables false
set_option linter.unusedSimpArgs false
theorem cinv_u8 (a : UInt8) (h : a ≠ 0) (w : World) : Calls Tryz.prog 81 #[.int .u8 (a.toNat : Int)] w fun e w' => e = .returned (.tuple #[.int .u8 ((Gf.gd 1 a).toNat : Int), .nilIface]) ∧ w' = w := by
  have h0 : a.toNat ≠ 0 := fun e => h (Gf.u8_ext e)
  have hy : (UInt8.ofNat (Gf.inv a.toNat)).toNat = Gf.inv a.toNat := by
    have := Gf.inv_lt a.toNat
    rw [UInt8.toNat_ofNat']
    omega
  have h1 : Gf.gm a (UInt8.ofNat (Gf.inv a.toNat)) = 1 := Gf.u8_ext (by rw [Gf.gm_nat, hy, Gf.mul_inv _ h0 (UInt8.toNat_lt a)]; rfl)
  rw [← inv_only h1, hy]
  refine (inv_pos a.toNat h0 (UInt8.toNat_lt a) w).mono ?_
  rintro e w' ⟨rfl, rfl⟩
  exact ⟨rfl, rfl⟩
theorem cplace_u8 (n k : Nat) (hk : k < n) (h33 : 33 ≤ n) (h255 : n ≤ 255) (w : World) : Calls Tryz.prog 73 #[.int .i64 (n : Int), .int .i64 (k : Int)] w fun e w' => e = .returned (.int .u8 ((Gf.al (n - 1 - k)).toNat : Int)) ∧ w' = w := by
  have h := cpower_any (n : Int) (k : Int) w
  have e : pwv (n : Int) (k : Int) = Gf.al (n - 1 - k) := by
    unfold pwv
    rw [if_pos (by omega)]
    congr 1
    omega
  rwa [e] at h
theorem cbeyond_u8 (n : Nat) (k : Int) (hk : k < 0 ∨ (n : Int) ≤ k) (w : World) : Calls Tryz.prog 73 #[.int .i64 (n : Int), .int .i64 k] w fun e w' => e = .returned (.int .u8 0) ∧ w' = w := by
  have h := cpower_any (n : Int) k w
  have e : pwv (n : Int) k = 0 := by
    unfold pwv
    rw [if_neg (by omega)]
  rwa [e] at h
set_option maxRecDepth 100000 in
theorem rpfits_any (n : Int) (w : World) : Calls Tryz.prog 79 #[.int .i64 n] w fun e w' => e = .returned (.bool (decide (33 ≤ n ∧ n ≤ 255))) ∧ w' = w := by
  have C := Lib.hid (cpower_any n 0 w)
  by_cases h : 33 ≤ n ∧ n ≤ 255
  · have e : pwv n 0 = Gf.al (n - 1 - 0).toNat := by
      unfold pwv
      rw [if_pos (by omega)]
    have hne : ¬ ((pwv n 0).toNat : Int) = 0 := fun h2 => by
      rw [e] at h2
      exact Gf.al_ne (n - 1 - 0).toNat (Gf.u8_ext (by simpa using h2))
    rw [decide_eq_true h]
    have hnb : (((pwv n 0).toNat : Int) == 0) = false := beq_false_of_ne hne
    have hnt : (((pwv n 0).toNat : Int) != 0) = true := by rw [bne_iff_ne]; exact hne
    generalize pwv n 0 = x at *
    clear h e
    go_enter Tryz.func79, Tryz.ntmps79
    go_wp2_with fail
    refine C.out.mono ?_; rintro e w' ⟨rfl, rfl⟩
    go_wp2_with fail
    go_ret
    exact ⟨rfl, rfl⟩
  · have e : pwv n 0 = 0 := by
      unfold pwv
      rw [if_neg (by omega)]
    rw [decide_eq_false h]
    rw [e] at C
    clear h e
    go_enter Tryz.func79, Tryz.ntmps79
    go_wp2_with fail
    refine C.out.mono ?_; rintro e w' ⟨rfl, rfl⟩
    go_wp2_with fail
    go_ret
    exact ⟨rfl, rfl⟩
theorem mem_zl (p : List UInt8) (y : UInt8) (k : Nat) (hk : k ≤ 256) : y ∈ zl p k ↔ y.toNat < k ∧ evL p y = 0 := by
  induction k with
  | zero => simp [zl]
  | succ k ih =>
    have ih := ih (by omega)
    have hn : (UInt8.ofNat k).toNat = k := by rw [UInt8.toNat_ofNat']; omega
    unfold zl
    by_cases h : evL p (UInt8.ofNat k) = 0
    · rw [if_pos h, List.mem_append, ih, List.mem_singleton]
      constructor
      · rintro (⟨h1, h2⟩ | rfl)
        · exact ⟨by omega, h2⟩
        · exact ⟨by omega, h⟩
      · rintro ⟨h1, h2⟩
        by_cases h3 : y.toNat = k
        · exact .inr (by rw [← h3, UInt8.ofNat_toNat])
        · exact .inl ⟨by omega, h2⟩
    · rw [if_neg h, ih]
      constructor
      · rintro ⟨h1, h2⟩
        exact ⟨by omega, h2⟩
      · rintro ⟨h1, h2⟩
        refine ⟨?_, h2⟩
        have : y.toNat ≠ k := fun h3 => h (by rw [← h3, UInt8.ofNat_toNat]; exact h2)
        omega
/-- an array of Booleans -/
def ARow (W : World) (g : Nat) (f : Nat → Bool) : Prop := W.heap[g]? = some (.cells ((List.range 256).map fun i => Value.bool (f i)).toArray 139 (0, 0))
theorem ARow.cell {W : World} {g : Nat} {f : Nat → Bool} (h : ARow W g f) (i : Nat) (hi : i < 256) : W.cell? ⟨g, i, none⟩ = some (.bool (f i)) := by
  rw [cell_of_row _ _ i _ _ _ h]
  simp [hi]
theorem ARow.frozen {W : World} {g : Nat} {f : Nat → Bool} (h : ARow W g f) (i : Nat) : W.frozen? ⟨g, i, none⟩ = false := by
  unfold World.frozen?; rw [show W.heap[g]? = _ from h]; rfl
theorem ARow.later {W W' : World} {g : Nat} {f : Nat → Bool} (h : ARow W g f) (hb : Below W.heap.size W W') : ARow W' g f := by
  unfold ARow at *
  rw [hb.block g (Array.getElem?_eq_some_iff.1 h).1]; exact h
theorem ARow.cong {W : World} {g : Nat} {f f' : Nat → Bool} (h : ARow W g f) (he : ∀ i, i < 256 → f i = f' i) : ARow W g f' := by
  unfold ARow at *
  rw [h]
  congr 2
  exact congrArg List.toArray (List.map_congr_left fun i hi => by rw [he i (List.mem_range.1 hi)])
theorem ARow.store {W : World} {g : Nat} {f : Nat → Bool} (h : ARow W g f) (i : Nat) (b : Bool) : ARow (W.setCell ⟨g, i, none⟩ (.bool b)) g (fun j => if j = i then b else f j) ∧ Only g W (W.setCell ⟨g, i, none⟩ (.bool b)) := by
  have e1 := setCell_eq_setRow W g i _ _ _ (.bool b) h
  have h1 := setRow_heap W g _ (((List.range 256).map fun i => Value.bool (f i)).toArray.setIfInBounds i (.bool b)) _ _ h
  rw [← e1] at h1
  refine ⟨?_, ?_⟩
  · unfold ARow
    rw [h1]
    congr 2
    apply Array.ext_getElem?
    intro k
    rw [Array.getElem?_setIfInBounds]
    by_cases hk : i = k
    · subst hk
      by_cases hn : i < 256
      · simp [hn]
      · simp [hn]
    · rw [if_neg hk]
      by_cases hn : k < 256
      · simp [hn]
        exact fun h => absurd h.symm hk
      · simp [hn]
  · rw [e1]
    exact ⟨rfl, rfl, rfl, by simp [World.setRow], fun k hk hn => setRow_other W g k _ (fun e => hn (by rw [e]))⟩
theorem ARow.apart {W : World} {g c : Nat} {f : Nat → Bool} {o : Option Addr} {z : List UInt8} (h : ARow W g f) (hr : RowIs W o (bytesV z) c) : 0 < (bytesV z).length → ∀ p, o = some p → p.block ≠ g := fun h0 p e hp => by
  obtain ⟨b, off, e2, hlt, hc⟩ := hr.cells h0
  rw [e] at e2
  cases e2
  have hp : b = g := hp
  subst hp
  have h1 := hc 0 _ (bytesV_get z 0 (by simpa using h0))
  rw [cell_of_row _ _ _ _ _ _ h] at h1
  simp at h1
def ab : Array Value := Array.replicate 256 (.bool false)
theorem zero_abools (w : World) : Sem.run Tryz.prog (zeroValue 139) w = .ok (.agg ab) w := by kernel_rfl
theorem bools_none (n : Nat) : Array.replicate n (Value.bool false) = ((List.range n).map fun _ => Value.bool false).toArray := by
  apply Array.ext
  · simp
  · intro k h1 h2
    simp
theorem arow_new (w : World) : ARow (w.alloc (.cells ab 139)) w.heap.size (fun _ => false) := by
  have h := World.alloc_heap_new w (.cells ab 139)
  have e : ab = ((List.range 256).map fun _ => Value.bool false).toArray := bools_none 256
  unfold ARow
  rw [h, e]
def SeAt (z : List UInt8) (g : Nat) (o : Option Addr) (c : Nat) (w : World) (iv : Value) (wr : World) : Prop :=
  ∃ k : Nat, k ≤ z.length ∧ iv = .int .i64 k ∧ ARow wr g (fun q => decide (UInt8.ofNat q ∈ z.take k)) ∧ RowIs wr o (bytesV z) c ∧ Below w.heap.size w wr
def SfAt (P : List UInt8) (n : Nat) (w : World) (v p : Value) (wr : World) : Prop :=
  ∃ k : Nat, k ≤ n ∧ p = .int .i64 k ∧ wr.ownsRow w.heap.size 3 1 v (srI P n k).length (intsV (srI P n k)) ∧ Below w.heap.size w wr
theorem take_memU {k : Nat} {z : List UInt8} (hk : k < z.length) (q : Nat) (hq : q < 256) : (if q = (co z k).toNat then true else decide (UInt8.ofNat q ∈ z.take k)) = decide (UInt8.ofNat q ∈ z.take (k + 1)) := by
  have e : z.take (k + 1) = z.take k ++ [co z k] := by
    rw [List.take_add_one, List.getElem?_eq_getElem hk]
    simp [co, List.getD_eq_getElem?_getD, List.getElem?_eq_getElem hk]
  rw [e]
  by_cases h : q = (co z k).toNat
  · rw [if_pos h, h, UInt8.ofNat_toNat]
    simp
  · rw [if_neg h]
    have h2 : ¬ UInt8.ofNat q = co z k := fun e => h (by rw [← e, UInt8.toNat_ofNat']; omega)
    simp [h2]
theorem srI_no {P : List UInt8} {n k : Nat} (h : ¬ evL P (vi n k) = 0) : srI P n (k + 1) = srI P n k := by unfold srI; rw [srP_no h]
theorem srI_yes {P : List UInt8} {n k : Nat} (h : evL P (vi n k) = 0) : srI P n k ++ [(k : Int)] = srI P n (k + 1) := by unfold srI; rw [srP_yes h]; simp
theorem search_bad (n : Int) (m c : Nat) (o : Option Addr) (w : World) (h : ¬ (33 ≤ n ∧ n ≤ 255)) :
    Calls Tryz.prog 64 #[.slice o m c, .int .i64 n] w fun e w' => e = .returned (.slice none 0 0) ∧ w' = w := by
  have hf := rpfits_any n w
  rw [decide_eq_false h] at hf
  have HF := Lib.hid hf
  clear hf h
  go_enter Tryz.func64, Tryz.ntmps64
  go_wp2_with fail
  refine HF.out.mono ?_; rintro e w' ⟨rfl, rfl⟩
  go_wp2_with fail
  go_ret
  exact ⟨rfl, rfl⟩
set_option maxRecDepth 100000 in
set_option maxHeartbeats 4000000 in
theorem search_any (P : List UInt8) (n c : Nat) (o : Option Addr) (w : World) (hP : RowIs w o (bytesV P) c) (h33 : 33 ≤ n) (h255 : n ≤ 255) :
    Calls Tryz.prog 64 #[.slice o P.length c, .int .i64 (n : Int)] w fun e w' => ∃ x B, e = .returned x ∧ w.heap.size ≤ B ∧ w'.ownsRow B 3 1 x (srI P n n).length (intsV (srI P n n)) ∧ Below w.heap.size w w' := by
  have hf := rpfits_any (n : Int) w
  rw [decide_eq_true (by omega : 33 ≤ (n : Int) ∧ (n : Int) ≤ 255)] at hf
  have HF := Lib.hid hf
  have HP := Lib.hid hP
  have h33 := Lib.hid h33
  have h255 := Lib.hid h255
  have hza := zero_abools
  obtain ⟨Z, hZ⟩ : ∃ Z, ab = Z := ⟨_, rfl⟩
  rw [hZ] at hza
  obtain ⟨w1, hw1⟩ : ∃ w1, w.alloc (.cells Z 139) = w1 := ⟨_, rfl⟩
  have HA1 : Hid (ARow w1 w.heap.size (fun _ => false)) := Lib.hid (by rw [← hw1, ← hZ]; exact arow_new w)
  have hb1 : Below w.heap.size w w1 := by rw [← hw1]; exact (Below.refl _ _).alloc (Nat.le_refl _) _
  have HB1 := Lib.hid hb1
  have HZR := Lib.hid (zeros_any P o c w1 (hP.later hb1))
  have HW1 := Lib.hid hw1
  have HZL := Lib.hid (zl_length P 256)
  have HGL : Hid (w.heap.size ≤ w.heap.size) := Lib.hid (Nat.le_refl _)
  clear hf hP hZ hb1 hw1
  go_enter Tryz.func64, Tryz.ntmps64
  go_wp2_with fail
  refine HF.out.mono ?_; rintro e w' ⟨rfl, rfl⟩
  clear HF
  go_wp2_with (rw [HW1.out])
  refine HZR.out.mono ?_; rintro e w2 ⟨x, rfl, ⟨oz, cz, rfl, hz⟩, hb⟩
  obtain ⟨z, hzz⟩ : ∃ z, zl P 256 = z := ⟨_, rfl⟩
  have HMZ : Hid (∀ y : UInt8, y ∈ z ↔ evL P y = 0) := Lib.hid fun y => by
    rw [← hzz, mem_zl P y 256 (Nat.le_refl _)]
    have := UInt8.toNat_lt y
    constructor
    · exact fun h => h.2
    · exact fun h => ⟨this, h⟩
  rw [hzz] at hz HZL
  have hz256 := HZL.out
  obtain ⟨g, hg⟩ : ∃ g, w'.heap.size = g := ⟨_, rfl⟩
  have HA2 : Hid (ARow w2 g (fun q => decide (UInt8.ofNat q ∈ z.take 0))) := Lib.hid (by rw [← hg]; exact (HA1.out.later hb).cong fun i _ => by simp)
  have HB2 := Lib.hid (Kit.step HB1.out hb)
  have HZ2 := Lib.hid hz
  have hcz := hz.cap
  unfold maxLen at hcz
  have hcl := hz.le
  simp only [bytesV_length] at hcl
  have HGG := Lib.hid hg
  rw [hzz]
  clear hz hb hzz HZR HA1 HZL
  rw [hg]
  clear hg
  go_wp2_with fail
  go_loopw [7, 18] (fun _ iv wr => SeAt z g oz cz w' iv wr) (fun _ iv _ => z.length - (intOf iv).toNat)
  case atStart => exact ⟨0, Nat.zero_le _, rfl, HA2.out, HZ2.out, HB2.out⟩
  case round =>
    obtain ⟨k, hk, rfl, hA, hR, hb⟩ := hrel
    have HB := Lib.hid hb
    by_cases hlt : k < z.length
    · obtain ⟨b, off, rfl, hb0, hcell⟩ := hR.cells (by simp; omega)
      have hc1 : wr.cell? ⟨b, off + k, none⟩ = some (.int .u8 ((co z k).toNat : Int)) := hcell k _ (bytesV_get z k hlt)
      have hp256 := UInt8.toNat_lt (co z k)
      have hp0 : (0 : Int) ≤ ((co z k).toNat : Int) := by omega
      have hp1 : ((co z k).toNat : Int) < 256 := by omega
      have hk0 : (0 : Int) ≤ (k : Int) := by omega
      have hk1 : (k : Int) < (z.length : Int) := by omega
      have hcg := hA.cell (co z k).toNat hp256
      have hfg := hA.frozen (co z k).toNat
      have hst := hA.store (co z k).toNat true
      have HA3 : Hid (ARow (wr.setCell ⟨g, (co z k).toNat, none⟩ (.bool true)) g (fun q => decide (UInt8.ofNat q ∈ z.take (k + 1)))) := Lib.hid (hst.1.cong fun i hi => take_memU hlt i hi)
      have HR3 : Hid (RowIs (wr.setCell ⟨g, (co z k).toNat, none⟩ (.bool true)) (some ⟨b, off, none⟩) (bytesV z) cz) := Lib.hid (Only.row hst.2 hR (hA.apart hR))
      have HB3 : Hid (Below w'.heap.size w' (wr.setCell ⟨g, (co z k).toNat, none⟩ (.bool true))) := Lib.hid (hb.trans (Only.below hst.2 (by rw [← HGG.out]; exact Nat.le_refl _) hb.size))
      clear hA hR hb hst HB hcell
      generalize co z k = x at *
      go_wp2_with fail
      go_roundw
      case rel => exact ⟨k + 1, by omega, by go_num, HA3.out, HR3.out, HB3.out⟩
      case measure => simp [intOf]; omega
    · obtain rfl : k = z.length := by omega
      rename World => wA
      have HAA : Hid (ARow wA g (fun q => decide (UInt8.ofNat q ∈ z))) := Lib.hid (hA.cong fun i _ => by rw [List.take_length])
      have HO0 : Hid (wA.ownsRow wA.heap.size 3 1 (.slice none 0 0) 0 (intsV [])) := Lib.hid (World.ownsRow_nil _ _ _ _)
      clear hA hR hb HA2 HZ2 HB2
      go_wp2_with fail
      go_loopw [8, 9, 10, 11, 26] (fun v _ _ _ p wr => SfAt P n wA v p wr) (fun _ _ _ _ p _ => n - (intOf p).toNat)
      case atStart => exact ⟨0, Nat.zero_le _, rfl, HO0.out, Below.refl _ _⟩
      case round =>
        obtain ⟨k, hk, rfl, hv, hb2⟩ := hrel
        have HV := Lib.hid hv
        have HB2 := Lib.hid hb2
        have hn33 := h33.out
        have hn255 := h255.out
        have hsl := srP_le P n k
        by_cases hlt : k < n
        · have hk0 : (0 : Int) ≤ (k : Int) := by omega
          have hk1 : (k : Int) < (n : Int) := by omega
          obtain ⟨y, hy⟩ : ∃ y, vi n k = y := ⟨_, rfl⟩
          have hye : Gf.gd 1 (Gf.al (n - 1 - k)) = y := hy
          have HPW : Hid (∀ v, Calls Tryz.prog 73 #[.int .i64 (n : Int), .int .i64 (k : Int)] v fun e w' => e = .returned (.int .u8 ((Gf.al (n - 1 - k)).toNat : Int)) ∧ w' = v) := Lib.hid fun v => cplace_u8 n k hlt hn33 hn255 v
          have HIV : Hid (∀ v, Calls Tryz.prog 81 #[.int .u8 ((Gf.al (n - 1 - k)).toNat : Int)] v fun e w' => e = .returned (.tuple #[.int .u8 (y.toNat : Int), .nilIface]) ∧ w' = v) := Lib.hid fun v => by rw [← hye]; exact cinv_u8 _ (Gf.al_ne _) v
          have hp256 := UInt8.toNat_lt y
          have hp0 : (0 : Int) ≤ (y.toNat : Int) := by omega
          have hp1 : (y.toNat : Int) < 256 := by omega
          have hcg := (HAA.out.later hb2).cell y.toNat hp256
          rw [UInt8.ofNat_toNat] at hcg
          generalize Gf.al (n - 1 - k) = xk at *
          by_cases he : evL P y = 0
          · rw [decide_eq_true ((HMZ.out y).2 he)] at hcg
            have HA : Hid (srI P n k ++ [(k : Int)] = srI P n (k + 1)) := Lib.hid (srI_yes (by rw [hy]; exact he))
            obtain ⟨w5, hw5⟩ : ∃ w5, wr.alloc (.cells #[.int .i64 (k : Int)] 3) = w5 := ⟨_, rfl⟩
            have hb5 : Below wr.heap.size wr w5 := by rw [← hw5]; exact (Below.refl _ _).alloc (Nat.le_refl _) _
            have HO5 : Hid (w5.ownsRow wA.heap.size 3 1 _ (srI P n k).length (intsV (srI P n k))) := Lib.hid (by rw [← hw5]; exact World.ownsRow.alloc hv _)
            have HC5 : Hid (w5.cell? ⟨wr.heap.size, 0, none⟩ = some (.int .i64 (k : Int))) := Lib.hid (by rw [← hw5, cell_of_row _ _ 0 _ _ _ (World.alloc_heap_new wr _)]; rfl)
            have HB5 := Lib.hid (Kit.step hb2 hb5)
            have HW5 := Lib.hid hw5
            have HSL : Hid ((srI P n k).length ≤ 1000) := Lib.hid (by rw [srI_length]; omega)
            clear hv hb2 hy hye he hw5 hb5 hsl hn33 hn255
            go_wp2_with fail
            refine (HPW.out _).mono ?_; rintro e w3 ⟨rfl, rfl⟩
            go_wp2_with fail
            refine (HIV.out _).mono ?_; rintro e w3 ⟨rfl, rfl⟩
            go_wp2_with (first | rw [HW5.out] | (at_builtin; refine append_int rfl (.tmp 43) (.tmp 45) rfl wA.heap.size _ (srI P n k).length (srI P n k) rfl HO5.out _ (k : Int) rfl HC5.out (by have := HSL.out; omega) HB5.out.size ?_))
            intro v6 w6 hv6 hg6
            have HO6 : Hid (w6.ownsRow wA.heap.size 3 1 v6 (srI P n (k + 1)).length (intsV (srI P n (k + 1)))) := Lib.hid (by rw [← HA.out]; simpa using hv6)
            have HB6 := Lib.hid (own_belowI HB5.out HO5.out hg6)
            clear hv6 hg6
            go_wp2_with fail
            go_roundw
            case rel => exact ⟨k + 1, by omega, by go_num, HO6.out, HB6.out⟩
            case measure => simp [intOf]; omega
          · rw [decide_eq_false (fun h => he ((HMZ.out y).1 h))] at hcg
            have HA : Hid (srI P n (k + 1) = srI P n k) := Lib.hid (srI_no (by rw [hy]; exact he))
            clear hv hb2 hy hye he hsl hn33 hn255
            go_wp2_with fail
            refine (HPW.out _).mono ?_; rintro e w3 ⟨rfl, rfl⟩
            go_wp2_with fail
            refine (HIV.out _).mono ?_; rintro e w3 ⟨rfl, rfl⟩
            go_wp2_with fail
            go_roundw
            case rel => exact ⟨k + 1, by omega, by go_num, by rw [HA.out]; exact HV.out, HB2.out⟩
            case measure => simp [intOf]; omega
        · obtain rfl : n = k := by omega
          have HBL := Lib.hid HB.out.size
          have HR := Lib.hid hv
          have HBE := Lib.hid (Kit.step HB.out hb2)
          clear hv hb2
          go_wp2_with fail
          go_ret
          exact ⟨_, _, rfl, HBL.out, HR.out, HBE.out⟩
end Go.Proofs.YtgifbpjmblemhaaGreatDoor
namespace Go.Proofs.YtgifbpjmblemhaaGreatDoor
open Go.RowKit
set_option linter.unusedVariables false
set_option linter.unusedSimpArgs false
theorem cell_later {W W' : World} {g : Nat} {v : Value} (hb : Below W.heap.size W W') (hc : W.cell? ⟨g, 0, none⟩ = some v) : W'.cell? ⟨g, 0, none⟩ = some v := by
  have hlt : g < W.heap.size := by
    unfold World.cell? at hc
    cases hh : W.heap[g]? with
    | none => simp [hh] at hc
    | some o => exact (Array.getElem?_eq_some_iff.1 hh).1
  rw [hb.cell (p := ⟨g, 0, none⟩) hlt]; exact hc
theorem evalr_rv {p : List UInt8} {a : Value} {x : UInt8} {v : World} (hp : RowV p a v) : Calls Tryz.prog 82 #[a, .int .u8 (x.toNat : Int)] v fun e w' => e = .returned (.int .u8 ((evL p x).toNat : Int)) ∧ Below v.heap.size v w' := by
  obtain ⟨o, c, rfl, hp⟩ := hp
  exact eval_any p x o c v hp
theorem mulr_u8 (x y : UInt8) (v : World) : Calls Tryz.prog 85 #[.int .u8 (x.toNat : Int), .int .u8 (y.toNat : Int)] v fun e w' => e = .returned (.int .u8 ((Gf.gm x y).toNat : Int)) ∧ w' = v := by
  refine (mul_nat x.toNat y.toNat (UInt8.toNat_lt x) (UInt8.toNat_lt y) v).mono ?_
  rintro e w' ⟨rfl, rfl⟩
  exact ⟨by rw [Gf.gm_nat], rfl⟩
theorem divr_u8 (x y : UInt8) (hy : y ≠ 0) (v : World) : Calls Tryz.prog 84 #[.int .u8 (x.toNat : Int), .int .u8 (y.toNat : Int)] v fun e w' => e = .returned (.tuple #[.int .u8 ((Gf.gd x y).toNat : Int), .nilIface]) ∧ w' = v := by
  refine (fdiv_any x.toNat y.toNat (UInt8.toNat_lt x) (fun e => hy (Gf.u8_ext e)) (UInt8.toNat_lt y) v).mono ?_
  rintro e w' ⟨rfl, rfl⟩
  exact ⟨by rw [Gf.gd_nat], rfl⟩
set_option maxRecDepth 100000 in
theorem amount_size (x0 x1 x2 : Value) (n p : Int) (w : World) (u : TypeId) (v : Value) (h : ¬ (33 ≤ n ∧ n ≤ 255)) (hE : w.cell? ⟨8, 0, none⟩ = some (.iface u v)) :
    Calls Tryz.prog 65 #[.agg #[x0, x1, x2], .int .i64 n, .int .i64 p] w fun e w' => e = .returned (.tuple #[.int .u8 0, .iface u v]) ∧ Below w.heap.size w w' := by
  obtain ⟨w1, hw1⟩ : ∃ w1, w.alloc (.cells #[x0, x1, x2] 85) = w1 := ⟨_, rfl⟩
  have hb1 : Below w.heap.size w w1 := by rw [← hw1]; exact (Below.refl _ _).alloc (Nat.le_refl _) _
  have hE1 : w1.cell? ⟨8, 0, none⟩ = some (.iface u v) := cell_later hb1 hE
  have hf := rpfits_any n w1
  rw [decide_eq_false h] at hf
  have HF := Lib.hid hf
  have HB1 := Lib.hid hb1
  have HW1 := Lib.hid hw1
  clear hf h hE hb1 hw1
  go_enter Tryz.func65, Tryz.ntmps65
  go_wp2_with (rw [HW1.out])
  refine HF.out.mono ?_; rintro e w' ⟨rfl, rfl⟩
  go_wp2_with fail
  go_quiet (fail)
  go_wp2
  go_ret2
  exact ⟨rfl, HB1.out.trans ⟨rfl, rfl, rfl, Nat.le_refl _, fun _ _ => rfl⟩⟩
set_option maxRecDepth 100000 in
theorem amount_range (x0 x1 x2 : Value) (n : Nat) (p : Int) (w : World) (u u2 : TypeId) (v v2 : Value) (h33 : 33 ≤ n) (h255 : n ≤ 255) (hp : p < 0 ∨ (n : Int) ≤ p) (hE : w.cell? ⟨2, 0, none⟩ = some (.iface u v)) (hE2 : w.cell? ⟨19, 0, none⟩ = some (.iface u2 v2)) :
    Calls Tryz.prog 65 #[.agg #[x0, x1, x2], .int .i64 (n : Int), .int .i64 p] w fun e w' => e = .returned (.tuple #[.int .u8 0, .iface u v]) ∧ Below w.heap.size w w' := by
  obtain ⟨w1, hw1⟩ : ∃ w1, w.alloc (.cells #[x0, x1, x2] 85) = w1 := ⟨_, rfl⟩
  have hb1 : Below w.heap.size w w1 := by rw [← hw1]; exact (Below.refl _ _).alloc (Nat.le_refl _) _
  have hE1 : Hid (∀ n, (w1.drewN n).cell? ⟨2, 0, none⟩ = some (.iface u v)) := Lib.hid fun n => cell_later (Kit.dn hb1 n) hE
  have HIZ := Lib.hid (inv_zero 0 rfl _ w1 (cell_later hb1 hE2))
  have hf := rpfits_any (n : Int) w1
  rw [decide_eq_true (by omega : 33 ≤ (n : Int) ∧ (n : Int) ≤ 255)] at hf
  have HF := Lib.hid hf
  have HP := Lib.hid (cbeyond_u8 n p hp w1)
  have HB1 := Lib.hid hb1
  have HW1 := Lib.hid hw1
  clear hf h33 h255 hE hE2 hb1 hw1 hp
  go_enter Tryz.func65, Tryz.ntmps65
  go_wp2_with (rw [HW1.out])
  refine HF.out.mono ?_; rintro e w' ⟨rfl, rfl⟩
  go_wp2_with fail
  refine HP.out.mono ?_; rintro e w' ⟨rfl, rfl⟩
  go_wp2_with fail
  refine HIZ.out.mono ?_; rintro e w2 ⟨rfl, nd, hw2⟩
  have hE3 : w2.cell? ⟨2, 0, none⟩ = some (.iface u v) := by rw [hw2]; exact hE1.out nd
  have HB2 : Hid (Below w.heap.size w w2) := Lib.hid (by rw [hw2]; exact Kit.dn HB1.out nd)
  clear hw2
  go_wp2_with fail
  go_quiet (fail)
  go_wp2
  go_ret2
  exact ⟨rfl, HB2.out.trans ⟨rfl, rfl, rfl, Nat.le_refl _, fun _ _ => rfl⟩⟩
set_option maxRecDepth 100000 in
set_option maxHeartbeats 1000000 in
theorem amount_of (G O : List UInt8) (x0 : Value) (oG oO : Option Addr) (cG cO n p : Nat) (w : World) (hG : RowIs w oG (bytesV G) cG) (hO : RowIs w oO (bytesV O) cO) (h33 : 33 ≤ n) (h255 : n ≤ 255) (hp : p < n) (hl : G.length ≤ 1000)
    (D : Value) (hD : ∀ v, Below w.heap.size w v → Calls Tryz.prog 84 #[.int .u8 ((Gf.gm (Gf.al (n - 1 - p)) (evL O (vi n p))).toNat : Int), .int .u8 ((evL (slopeL G) (vi n p)).toNat : Int)] v fun e w' => e = .returned D ∧ Below v.heap.size v w') (x1 x2 : Value) (hDt : D = .tuple #[x1, x2]) :
    Calls Tryz.prog 65 #[.agg #[x0, .slice oG G.length cG, .slice oO O.length cO], .int .i64 (n : Int), .int .i64 (p : Int)] w fun e w' => e = .returned D ∧ Below w.heap.size w w' := by
  obtain ⟨w1, hw1⟩ : ∃ w1, w.alloc (.cells #[x0, .slice oG G.length cG, .slice oO O.length cO] 85) = w1 := ⟨_, rfl⟩
  have hb1 : Below w.heap.size w w1 := by rw [← hw1]; exact (Below.refl _ _).alloc (Nat.le_refl _) _
  have hg1 : w1.heap[w.heap.size]? = some (.cells #[x0, .slice oG G.length cG, .slice oO O.length cO] 85 (0, 0)) := by rw [← hw1]; exact World.alloc_heap_new _ _
  have hc1 : w1.cell? ⟨w.heap.size, 1, none⟩ = some (.slice oG G.length cG) := by rw [cell_of_row _ _ 1 _ _ _ hg1]; rfl
  have hf := rpfits_any (n : Int) w1
  rw [decide_eq_true (by omega : 33 ≤ (n : Int) ∧ (n : Int) ≤ 255)] at hf
  have HF := Lib.hid hf
  obtain ⟨y, hy⟩ : ∃ y, vi n p = y := ⟨_, rfl⟩
  have hye : Gf.gd 1 (Gf.al (n - 1 - p)) = y := hy
  have HP := Lib.hid (cplace_u8 n p hp h33 h255 w1)
  have HI := cinv_u8 (Gf.al (n - 1 - p)) (Gf.al_ne _) w1
  rw [hye] at HI
  rw [hy] at hD
  have HI := Lib.hid HI
  have HB1 := Lib.hid hb1
  have HW1 := Lib.hid hw1
  have HG1 := Lib.hid hg1
  have HSL := Lib.hid (slope_rv (⟨oG, cG, rfl, hG.later hb1⟩ : RowV G (.slice oG G.length cG) w1) (by omega))
  have HO := Lib.hid hO
  have HD := Lib.hid hD
  generalize Gf.al (n - 1 - p) = a at *
  clear hf h33 h255 hG hO hb1 hw1 hp hl hy hye hD hg1
  subst hDt
  go_enter Tryz.func65, Tryz.ntmps65
  go_wp2_with (rw [HW1.out])
  refine HF.out.mono ?_; rintro e w' ⟨rfl, rfl⟩
  go_wp2_with fail
  refine HP.out.mono ?_; rintro e w' ⟨rfl, rfl⟩
  go_wp2_with fail
  refine HI.out.mono ?_; rintro e w' ⟨rfl, rfl⟩
  go_wp2_with fail
  refine HSL.out.mono ?_; rintro e w2 ⟨xs, rfl, hs, hb2⟩
  have HE := Lib.hid (evalr_rv (x := y) hs)
  rw [evL_tr] at HE
  have HB2 := Lib.hid (Kit.step HB1.out hb2)
  have HG2 : Hid (w2.heap[w.heap.size]? = some (.cells #[x0, .slice oG G.length cG, .slice oO O.length cO] 85 (0, 0))) := Lib.hid (by rw [hb2.block _ (Array.getElem?_eq_some_iff.1 HG1.out).1]; exact HG1.out)
  clear hs hb2
  go_wp2_with fail
  refine HE.out.mono ?_; rintro e w3 ⟨rfl, hb3⟩
  have HB3 := Lib.hid (Kit.step HB2.out hb3)
  have hg3 : w3.heap[w.heap.size]? = some (.cells #[x0, .slice oG G.length cG, .slice oO O.length cO] 85 (0, 0)) := by rw [hb3.block _ (Array.getElem?_eq_some_iff.1 HG2.out).1]; exact HG2.out
  have hc3 : w3.cell? ⟨w.heap.size, 2, none⟩ = some (.slice oO O.length cO) := by rw [cell_of_row _ _ 2 _ _ _ hg3]; rfl
  have HEO := Lib.hid (eval_any O y oO cO w3 (HO.out.later HB3.out))
  clear hb3 hg3 hc1
  go_wp2_with fail
  refine HEO.out.mono ?_; rintro e w4 ⟨rfl, hb4⟩
  have HB4 := Lib.hid (Kit.step HB3.out hb4)
  clear hb4 hc3
  go_wp2_with fail
  refine (mulr_u8 _ _ _).mono ?_; rintro e w5 ⟨rfl, rfl⟩
  go_wp2_with fail
  refine (HD.out _ HB4.out).mono ?_; rintro e w6 ⟨rfl, hb6⟩
  have HB6 := Lib.hid (Kit.step HB4.out hb6)
  clear hb6
  go_wp2_with fail
  go_ret2
  exact ⟨rfl, HB6.out⟩
theorem amount_ok (G O : List UInt8) (x0 : Value) (oG oO : Option Addr) (cG cO n p : Nat) (w : World) (hG : RowIs w oG (bytesV G) cG) (hO : RowIs w oO (bytesV O) cO) (h33 : 33 ≤ n) (h255 : n ≤ 255) (hp : p < n) (hl : G.length ≤ 1000) (hne : evL (slopeL G) (vi n p) ≠ 0) :
    Calls Tryz.prog 65 #[.agg #[x0, .slice oG G.length cG, .slice oO O.length cO], .int .i64 (n : Int), .int .i64 (p : Int)] w fun e w' => e = .returned (.tuple #[.int .u8 ((amt G O n p).toNat : Int), .nilIface]) ∧ Below w.heap.size w w' :=
  amount_of G O x0 oG oO cG cO n p w hG hO h33 h255 hp hl _ (fun v _ => (divr_u8 _ _ hne v).mono fun e w' h => ⟨h.1, by rw [h.2]; exact Below.refl _ _⟩) _ _ rfl
theorem amount_zero (G O : List UInt8) (x0 : Value) (oG oO : Option Addr) (cG cO n p : Nat) (w : World) (hG : RowIs w oG (bytesV G) cG) (hO : RowIs w oO (bytesV O) cO) (h33 : 33 ≤ n) (h255 : n ≤ 255) (hp : p < n) (hl : G.length ≤ 1000) (h0 : evL (slopeL G) (vi n p) = 0)
    (u : TypeId) (v : Value) (hE : w.cell? ⟨19, 0, none⟩ = some (.iface u v)) :
    Calls Tryz.prog 65 #[.agg #[x0, .slice oG G.length cG, .slice oO O.length cO], .int .i64 (n : Int), .int .i64 (p : Int)] w fun e w' => e = .returned (.tuple #[.int .u8 0, .iface u v]) ∧ Below w.heap.size w w' :=
  amount_of G O x0 oG oO cG cO n p w hG hO h33 h255 hp hl _ (fun v' hv => (fdiv_zero _ _ (by rw [h0]; rfl) u v v' (cell_later hv hE)).mono fun e w' h => ⟨h.1, by obtain ⟨_, n, rfl⟩ := h; exact Kit.dn' _ n⟩) _ _ rfl
/-- a count within the parity -/
def bnd (k : Int) : Int := if k < 0 then 0 else if 32 < k then 32 else k
def spr (a b : Int) : Int := if 32 - bnd a - 2 * bnd b < 0 then 0 else 32 - bnd a - 2 * bnd b
end Go.Proofs.YtgifbpjmblemhaaGreatDoor
namespace Go.Proofs.YtgifbpjmblemhaaGreatDoor
open Go.RowKit
set_option linter.unusedVariables false
set_option linter.unusedSimpArgs false
def amS (G O : List UInt8) (n : Nat) : List (Nat × UInt8) := (srP G n n).map fun p => (p, amt G O n p)
@[simp] theorem amS_length (G O : List UInt8) (n : Nat) : (amS G O n).length = (srP G n n).length := by simp [amS]
theorem putW_step (W G O : List UInt8) (n k p : Nat) (hk : k < (srP G n n).length) (hp : (srP G n n).getD k 0 = p) :
    (putW W ((amS G O n).take k)).set p (co (putW W ((amS G O n).take k)) p ^^^ amt G O n p) = putW W ((amS G O n).take (k + 1)) := by
  have e : (amS G O n).take (k + 1) = (amS G O n).take k ++ [(p, amt G O n p)] := by
    rw [List.take_add_one]
    congr 1
    have h1 : (amS G O n)[k]? = some (p, amt G O n p) := by
      unfold amS
      rw [List.getElem?_map, List.getElem?_eq_getElem hk]
      rw [List.getD_eq_getElem?_getD, List.getElem?_eq_getElem hk] at hp
      simp at hp
      simp [hp]
    rw [h1]; rfl
  rw [e, putW_snoc]
def CoAt (W G O : List UInt8) (n g cap B gf : Nat) (xS : Value) (fc : Array Value) (w : World) (iv : Value) (wr : World) : Prop :=
  ∃ k : Nat, k ≤ (srP G n n).length ∧ iv = .int .i64 k ∧ Buf wr g cap (putW W ((amS G O n).take k)) ∧ wr.ownsRow B 3 1 xS (srP G n n).length (intsV (srI G n n)) ∧ wr.heap[gf]? = some (.cells fc 85 (0, 0)) ∧ Below w.heap.size w wr
theorem found_keeps {w w' : World} {gf : Nat} {fc : Array Value} (h : w.heap[gf]? = some (.cells fc 85 (0, 0))) (hb : Below w.heap.size w w') : w'.heap[gf]? = some (.cells fc 85 (0, 0)) := by
  rw [hb.block _ (Array.getElem?_eq_some_iff.1 h).1]; exact h
theorem found_cell {w : World} {gf : Nat} {a b c : Value} (h : w.heap[gf]? = some (.cells #[a, b, c] 85 (0, 0))) : w.cell? ⟨gf, 0, none⟩ = some a ∧ w.cell? ⟨gf, 1, none⟩ = some b ∧ w.cell? ⟨gf, 2, none⟩ = some c :=
  ⟨by rw [cell_of_row _ _ 0 _ _ _ h]; rfl, by rw [cell_of_row _ _ 1 _ _ _ h]; rfl, by rw [cell_of_row _ _ 2 _ _ _ h]; rfl⟩
set_option maxRecDepth 100000 in
set_option maxHeartbeats 4000000 in
theorem corrected_lost (W G O : List UInt8) (x0 : Value) (oW oG oO : Option Addr) (cW cG cO n : Nat) (w : World) (hW : RowIs w oW (bytesV W) cW) (hG : RowIs w oG (bytesV G) cG) (hO : RowIs w oO (bytesV O) cO)
    (hn : W.length = n) (h33 : 33 ≤ n) (h255 : n ≤ 255) (hl : G.length ≤ 1000) (hS : (srP G n n).length + 1 ≠ tl G G.length) (u : TypeId) (v : Value) (hE : w.cell? ⟨1, 0, none⟩ = some (.iface u v)) :
    Calls Tryz.prog 39 #[.slice oW n cW, .agg #[x0, .slice oG G.length cG, .slice oO O.length cO]] w fun e w' => e = .returned (.tuple #[.slice none 0 0, .iface u v]) ∧ Below w.heap.size w w' := by
  obtain ⟨w1, hw1⟩ : ∃ w1, w.alloc (.cells #[x0, .slice oG G.length cG, .slice oO O.length cO] 85) = w1 := ⟨_, rfl⟩
  have hb1 : Below w.heap.size w w1 := by rw [← hw1]; exact (Below.refl _ _).alloc (Nat.le_refl _) _
  have hg1 : w1.heap[w.heap.size]? = some (.cells #[x0, .slice oG G.length cG, .slice oO O.length cO] 85 (0, 0)) := by rw [← hw1]; exact World.alloc_heap_new _ _
  have hcl := clone_own W oW cW w1 (hW.later hb1) (by omega) (by omega)
  rw [hn] at hcl
  have HCL := Lib.hid hcl
  have HG := Lib.hid hG
  have HE := Lib.hid hE
  have HS := Lib.hid hS
  have HB1 := Lib.hid hb1
  have HW1 := Lib.hid hw1
  have HG1 := Lib.hid hg1
  have HN := Lib.hid hn
  have h33 := Lib.hid h33
  have h255 := Lib.hid h255
  have hbw : n ≤ cW := by have := hW.le; simp at this; omega
  have hbc : cW ≤ 9223372036854775807 := by have := hW.cap; unfold maxLen at this; omega
  clear hW hG hO hn hb1 hw1 hg1 hcl hS hE
  go_enter Tryz.func39, Tryz.ntmps39
  go_wp2_with (rw [HW1.out])
  refine HCL.out.mono ?_; rintro e w2 ⟨g, cap, rfl, hgl, hbuf, hb2⟩
  have HB2 := Lib.hid (Kit.step HB1.out hb2)
  have HG2 := Lib.hid (found_keeps HG1.out hb2)
  have hc2 := (found_cell HG2.out).2.1
  have HSR := Lib.hid (search_any G n cG oG w2 (HG.out.later HB2.out) h33.out h255.out)
  clear hgl hbuf hb2
  rw [HN.out]
  go_wp2_with fail
  refine HSR.out.mono ?_; rintro e w3 ⟨x, B, rfl, hB, hv, hb3⟩
  obtain ⟨oS, cS, rfl, hRS⟩ := owns_ints hv rfl
  have HB3 := Lib.hid (Kit.step HB2.out hb3)
  have HG3 := Lib.hid (found_keeps HG2.out hb3)
  have hc3 := (found_cell HG3.out).2.1
  have HDG := Lib.hid (deg_any oG G cG w3 (HG.out.later HB3.out))
  have hsl := srI_length G n n
  have hne : ¬ (((srI G n n).length : Int) = (tl G G.length : Int) - 1) := by have := HS.out; omega
  have hnb : (((srI G n n).length : Int) == (tl G G.length : Int) - 1) = false := beq_false_of_ne hne
  have hnt : (((srI G n n).length : Int) != (tl G G.length : Int) - 1) = true := by rw [bne_iff_ne]; exact hne
  have hnd : decide (((srI G n n).length : Int) = (tl G G.length : Int) - 1) = false := decide_eq_false hne
  clear hv hRS hb3 hc2 hsl
  go_wp2_with fail
  refine HDG.out.mono ?_; rintro e w4 ⟨rfl, hb4⟩
  have HB4 := Lib.hid (Kit.step HB3.out hb4)
  have hE4 := cell_later HB4.out HE.out
  clear hb4 hc3
  go_wp2_with fail
  go_quiet (fail)
  go_wp2
  go_ret2
  exact ⟨rfl, HB4.out.trans ⟨rfl, rfl, rfl, Nat.le_refl _, fun _ _ => rfl⟩⟩
set_option maxRecDepth 100000 in
set_option maxHeartbeats 8000000 in
theorem corrected_ok (W G O : List UInt8) (x0 : Value) (oW oG oO : Option Addr) (cW cG cO n : Nat) (w : World) (hW : RowIs w oW (bytesV W) cW) (hG : RowIs w oG (bytesV G) cG) (hO : RowIs w oO (bytesV O) cO)
    (hn : W.length = n) (h33 : 33 ≤ n) (h255 : n ≤ 255) (hl : G.length ≤ 1000) (hS : (srP G n n).length + 1 = tl G G.length) (hne : ∀ p ∈ srP G n n, evL (slopeL G) (vi n p) ≠ 0) :
    Calls Tryz.prog 39 #[.slice oW n cW, .agg #[x0, .slice oG G.length cG, .slice oO O.length cO]] w fun e w' => ∃ x, e = .returned (.tuple #[x, .nilIface]) ∧ RowV (putW W (amS G O n)) x w' ∧ Below w.heap.size w w' := by
  obtain ⟨w1, hw1⟩ : ∃ w1, w.alloc (.cells #[x0, .slice oG G.length cG, .slice oO O.length cO] 85) = w1 := ⟨_, rfl⟩
  have hb1 : Below w.heap.size w w1 := by rw [← hw1]; exact (Below.refl _ _).alloc (Nat.le_refl _) _
  have hg1 : w1.heap[w.heap.size]? = some (.cells #[x0, .slice oG G.length cG, .slice oO O.length cO] 85 (0, 0)) := by rw [← hw1]; exact World.alloc_heap_new _ _
  have hcl := clone_own W oW cW w1 (hW.later hb1) (by omega) (by omega)
  rw [hn] at hcl
  have HCL := Lib.hid hcl
  have HG := Lib.hid hG
  have HO := Lib.hid hO
  have HS := Lib.hid hS
  have HNE := Lib.hid hne
  have HB1 := Lib.hid hb1
  have HW1 := Lib.hid hw1
  have HG1 := Lib.hid hg1
  have HN := Lib.hid hn
  have HGL := Lib.hid hl
  have h33 := Lib.hid h33
  have h255 := Lib.hid h255
  have hbw : n ≤ cW := by have := hW.le; simp at this; omega
  have hbc : cW ≤ 9223372036854775807 := by have := hW.cap; unfold maxLen at this; omega
  clear hW hG hO hn hb1 hw1 hg1 hcl hS hne hl
  go_enter Tryz.func39, Tryz.ntmps39
  go_wp2_with (rw [HW1.out])
  refine HCL.out.mono ?_; rintro e w2 ⟨g, cap, rfl, hgl, hbuf, hb2⟩
  have HB2 := Lib.hid (Kit.step HB1.out hb2)
  have HG2 := Lib.hid (found_keeps HG1.out hb2)
  have hc2 := (found_cell HG2.out).2.1
  have HSR := Lib.hid (search_any G n cG oG w2 (HG.out.later HB2.out) h33.out h255.out)
  have HGG : Hid (w.heap.size ≤ g) := Lib.hid (by have := HB1.out.size; omega)
  have HBF2 := Lib.hid hbuf
  clear hgl hbuf hb2
  rw [HN.out]
  go_wp2_with fail
  refine HSR.out.mono ?_; rintro e w3 ⟨x, B, rfl, hB, hv, hb3⟩
  obtain ⟨oS, cS, rfl, hRS⟩ := owns_ints hv rfl
  have hsl := srI_length G n n
  rw [hsl] at hv ⊢
  have HB3 := Lib.hid (Kit.step HB2.out hb3)
  have HG3 := Lib.hid (found_keeps HG2.out hb3)
  have HBF3 := Lib.hid (HBF2.out.later hb3)
  have HV3 := Lib.hid hv
  have hc3 := (found_cell HG3.out).2.1
  have HDG := Lib.hid (deg_any oG G cG w3 (HG.out.later HB3.out))
  have hcS := hRS.le
  have hcS2 := hRS.cap
  simp only [intsV_length] at hcS
  rw [hsl] at hcS
  unfold maxLen at hcS2
  have heq : ((tl G G.length : Int) - 1) = ((srP G n n).length : Int) := by have := HS.out; omega
  rw [heq] at HDG
  have hnt : (((srP G n n).length : Int) != ((srP G n n).length : Int)) = false := by simp
  have hnd : decide (((srP G n n).length : Int) = ((srP G n n).length : Int)) = true := decide_eq_true rfl
  have HSL : Hid ((srP G n n).length ≤ n) := Lib.hid (srP_le G n n)
  have HLT : Hid (∀ p ∈ srP G n n, p < n) := Lib.hid fun p hp => (mem_srP.1 hp).1
  obtain ⟨m, hm⟩ : ∃ m, (srP G n n).length = m := ⟨_, rfl⟩
  have HM := Lib.hid hm
  rw [hm] at hcS hnt hnd HV3 HSL HDG ⊢
  clear hv hRS hb3 hc2 hsl heq hB hm
  go_wp2_with fail
  refine HDG.out.mono ?_; rintro e w4 ⟨rfl, hb4⟩
  have HB4 := Lib.hid (Kit.step HB3.out hb4)
  have HG4 := Lib.hid (found_keeps HG3.out hb4)
  have HBF4 := Lib.hid (HBF3.out.later hb4)
  have HV4 := Lib.hid (own_laterI HV3.out hb4)
  clear hb4 hc3
  go_wp2_with fail
  go_loopw [10, 11, 12, 30] (fun _ _ _ iv wr => CoAt W G O n g cap B w.heap.size (.slice oS m cS) #[x0, .slice oG G.length cG, .slice oO O.length cO] w iv wr) (fun _ _ _ iv _ => m - (intOf iv).toNat)
  case atStart => exact ⟨0, Nat.zero_le _, rfl, by rw [List.take_zero]; exact HBF4.out, by rw [HM.out]; exact HV4.out, HG4.out, HB4.out⟩
  case round =>
    clear HBF2 HBF3 HBF4 HV3 HV4 HG2 HG3 HG4 HB2 HB3 HB4 HCL HSR HDG
    obtain ⟨k, hk, rfl, hbuf, hv, hg5, hb⟩ := hrel
    have HBF := Lib.hid hbuf
    have HV := Lib.hid hv
    have HG5 := Lib.hid hg5
    have HB5 := Lib.hid hb
    by_cases hlt : k < (srP G n n).length
    · obtain ⟨o', c', e', hr0⟩ := owns_ints hv (by rw [srI_length])
      have hr : RowIs wr oS (intsV (srI G n n)) cS := by
        injection e' with e1 _ e3
        rw [e1, e3]; exact hr0
      clear e' hr0
      obtain ⟨b, off, rfl, hcell⟩ := ints_cell hr k (by rw [srI_length]; exact hlt)
      obtain ⟨p, hp⟩ : ∃ p, (srP G n n).getD k 0 = p := ⟨_, rfl⟩
      have hci : ci (srI G n n) k = (p : Int) := by
        unfold ci srI
        rw [← hp, List.getD_eq_getElem?_getD, List.getD_eq_getElem?_getD, List.getElem?_map, List.getElem?_eq_getElem hlt]
        rfl
      have hpm : p ∈ srP G n n := by
        rw [← hp, List.getD_eq_getElem?_getD, List.getElem?_eq_getElem hlt]
        exact List.getElem_mem hlt
      have hpn := HLT.out p hpm
      rw [hci] at hcell
      have hltm : k < m := by rw [← HM.out]; exact hlt
      have hk0 : (0 : Int) ≤ (k : Int) := by omega
      have hk1 : (k : Int) < (m : Int) := by omega
      have hp0 : (0 : Int) ≤ (p : Int) := by omega
      have hp1 : (p : Int) < (n : Int) := by omega
      have hylen : (putW W ((amS G O n).take k)).length = n := by rw [putW_length, HN.out]
      have HAM := Lib.hid (amount_ok G O x0 oG oO cG cO n p wr (HG.out.later hb) (HO.out.later hb) h33.out h255.out hpn HGL.out (HNE.out p hpm))
      have HST := Lib.hid (putW_step W G O n k p hlt hp)
      generalize amt G O n p = am at HAM HST
      generalize hY : putW W ((amS G O n).take k) = Y at HBF HST hylen
      have HYL := Lib.hid hylen
      have HKL := Lib.hid hltm
      have HPN := Lib.hid hpn
      clear hbuf hv hg5 hb hr hci hpm hp hpn hlt hY hylen hltm
      go_wp2_with (refine wpList_load_row rfl 85 (.tmp 3) rfl w.heap.size rfl 85 _ (0, 0) _ HG5.out Tryz.underlying85 rfl fnd_size ?_)
      refine HAM.out.mono ?_; rintro e w6 ⟨rfl, hb6⟩
      have HB6 := Lib.hid (Kit.step HB5.out hb6)
      have HG6 := Lib.hid (found_keeps HG5.out hb6)
      have HBF6 := Lib.hid (HBF.out.later hb6)
      have HV6 := Lib.hid (own_laterI HV.out hb6)
      have hcp := HBF6.out.cell p (by rw [HYL.out]; exact HPN.out)
      have hfp := HBF6.out.frozen p
      have hcp2 := HBF6.out.le
      rw [HYL.out] at hcp2
      have hcp3 := hcp2.1
      have hcp4 := hcp2.2
      unfold maxLen at hcp4
      have hstx := HBF6.out.store p (co Y p ^^^ am)
      rw [HST.out] at hstx
      have HBF7 := Lib.hid hstx.1
      obtain ⟨cur, hcur⟩ := HBF6.out.cells
      have HV7 := Lib.hid (own_only HV6.out hstx.2 hcur (by decide))
      have HB7 := Lib.hid (HB6.out.trans (Only.below hstx.2 HGG.out HB6.out.size))
      have HG7 : Hid ((w6.setCell ⟨g, p, none⟩ (.int .u8 ((co Y p ^^^ am).toNat : Int))).heap[w.heap.size]? = some (.cells #[x0, .slice oG G.length cG, .slice oO O.length cO] 85 (0, 0))) := Lib.hid (by
        rw [World.grownBy.block hstx.2 _ (Array.getElem?_eq_some_iff.1 HG6.out).1 (fun e => by
          cases e
          have h2 := HG6.out
          rw [hcur] at h2
          injection h2 with h2
          injection h2 with _ h2 _
          exact absurd h2 (by decide))]
        exact HG6.out)
      have HAD : Hid (∀ v, Calls Tryz.prog 66 #[.int .u8 ((co Y p).toNat : Int), .int .u8 (am.toNat : Int)] v fun e w' => e = .returned (.int .u8 ((co Y p ^^^ am).toNat : Int)) ∧ w' = v) := Lib.hid fun v => add_u8 _ _ v
      generalize co Y p ^^^ am = nw at *
      generalize co Y p = ow at *
      clear hb6 hstx hcur hcp2
      go_wp2_with fail
      refine (HAD.out _).mono ?_; rintro e w7 ⟨rfl, rfl⟩
      go_wp2_with fail
      go_roundw
      case rel => exact ⟨k + 1, by have := HM.out; have := HKL.out; omega, by go_num, HBF7.out, HV7.out, HG7.out, HB7.out⟩
      case measure => have := HKL.out; simp [intOf]; omega
    · obtain rfl : k = (srP G n n).length := by omega
      have HBE : Hid (Buf wr g cap (putW W (amS G O n))) := Lib.hid (by
        have := HBF.out
        rwa [List.take_of_length_le (by simp)] at this)
      have hlen : (putW W (amS G O n)).length = n := by rw [putW_length, HN.out]
      have HLE := Lib.hid hlen
      rw [HM.out]
      clear hbuf hv hg5 hb hlt HBF hlen
      go_wp2_with fail
      go_ret2
      exact ⟨.slice (some ⟨g, 0, none⟩) n cap, rfl, ⟨_, _, by rw [HLE.out], HBE.out.row⟩, HB5.out⟩
end Go.Proofs.YtgifbpjmblemhaaGreatDoor
namespace Go.Proofs.YtgifbpjmblemhaaGreatDoor
open Go.RowKit
set_option linter.unusedVariables false
set_option linter.unusedSimpArgs false
def fxz : Value := .agg #[.slice none 0 0, .slice none 0 0, .int .i64 0]
def fx_v (A : Nat → Addr) (k : Nat) : Ending := .returned (.tuple #[fxz, .iface 152 (.pointer (some (A k)))])
def FxTo (W : List UInt8) (n : Nat) (z : List Int) (A : Nat → Addr) (w : World) (e : Ending) (w' : World) : Prop :=
  Below w.heap.size w w' ∧ (((∀ v H, ¬ Chg v W n z H) ∧ e = fx_v A 16) ∨ ∃ v H x1 x2, Chg v W n z H ∧ e = .returned (.tuple #[.agg #[x1, x2, .int .i64 (H.length : Int)], .nilIface]) ∧ RowV v x1 w' ∧ IntsV (dfL W v n) x2 w')
theorem fx_size : (Tryz.prog.info? 60).map (·.size) = some 3 := by kernel_rfl
theorem fx_set {w : World} {g : Nat} {a b c : Value} (h : w.heap[g]? = some (.cells #[a, b, c] 60 (0, 0))) (x y v : Value) : (((w.setCell ⟨g, 0, none⟩ x).setCell ⟨g, 1, none⟩ y).setCell ⟨g, 2, none⟩ v).heap[g]? = some (.cells #[x, y, v] 60 (0, 0)) := by
  have e1 := setCell_eq_setRow w g 0 _ _ _ x h
  have h1 := setRow_heap w g #[a, b, c] (#[a, b, c].setIfInBounds 0 x) _ _ h
  rw [← e1] at h1
  have e2 := setCell_eq_setRow _ g 1 _ _ _ y h1
  have h2 := setRow_heap _ g _ ((#[a, b, c].setIfInBounds 0 x).setIfInBounds 1 y) _ _ h1
  rw [← e2] at h2
  have e3 := setCell_eq_setRow _ g 2 _ _ _ v h2
  have h3 := setRow_heap _ g _ (((#[a, b, c].setIfInBounds 0 x).setIfInBounds 1 y).setIfInBounds 2 v) _ _ h2
  rw [← e3] at h3
  simpa using h3
theorem fx_cells {w : World} {g : Nat} {a b c : Value} (h : w.heap[g]? = some (.cells #[a, b, c] 60 (0, 0))) : w.cell? ⟨g, 0, none⟩ = some a ∧ w.cell? ⟨g, 1, none⟩ = some b ∧ w.cell? ⟨g, 2, none⟩ = some c ∧ w.frozen? ⟨g, 0, none⟩ = false ∧ w.frozen? ⟨g, 1, none⟩ = false ∧ w.frozen? ⟨g, 2, none⟩ = false :=
  ⟨by rw [cell_of_row _ _ 0 _ _ _ h]; rfl, by rw [cell_of_row _ _ 1 _ _ _ h]; rfl, by rw [cell_of_row _ _ 2 _ _ _ h]; rfl, by unfold World.frozen?; rw [h]; rfl, by unfold World.frozen?; rw [h]; rfl, by unfold World.frozen?; rw [h]; rfl⟩
theorem fx_keeps {w w' : World} {g : Nat} {fc : Array Value} (h : w.heap[g]? = some (.cells fc 60 (0, 0))) (hb : Below w.heap.size w w') : w'.heap[g]? = some (.cells fc 60 (0, 0)) := by
  rw [hb.block _ (Array.getElem?_eq_some_iff.1 h).1]; exact h
set_option maxRecDepth 100000 in
set_option maxHeartbeats 4000000 in
theorem cfix_size (m c cz k : Nat) (o oz : Option Addr) (w : World) (A : Nat → Addr) (hE : Er.Six w A) (h : ¬ (33 ≤ m ∧ m ≤ 255)) (hm : m ≤ 9223372036854775807) (Z : Array Value) (hZ : (bytesV zsyn).toArray = Z) :
    Calls Tryz.prog 24 #[.slice o m c, .slice oz k cz] w fun e w' => e = fx_v A 7 ∧ Below w.heap.size w w' := by
  obtain ⟨w1, hw1⟩ : ∃ w1, w.alloc (.cells #[.slice none 0 0, .slice none 0 0, .int .i64 0] 60) = w1 := ⟨_, rfl⟩
  have hb1 : Below w.heap.size w w1 := by rw [← hw1]; exact (Below.refl _ _).alloc (Nat.le_refl _) _
  have hg1 : w1.heap[w.heap.size]? = some (.cells #[.slice none 0 0, .slice none 0 0, .int .i64 0] 60 (0, 0)) := by rw [← hw1]; exact World.alloc_heap_new _ _
  have hof := of_size m c o w1 A (hE.later hb1) h hm
  rw [hZ] at hof
  have HOF := Lib.hid hof
  have HB1 := Lib.hid hb1
  have HG1 := Lib.hid hg1
  have HW1 := Lib.hid hw1
  have hzs := czero_syn
  rw [hZ] at hzs
  have hz1 := one_cell zsyn
  rw [hZ] at hz1
  have HZ1 := Lib.hid hz1
  have hz2 := csyn_size (ys := zsyn) (by simp [zsyn])
  rw [hZ] at hz2
  have HZ2 := Lib.hid hz2
  clear hE h hZ hb1 hg1 hw1 hof hz1 hz2
  go_enter Tryz.func24, Tryz.ntmps24
  go_wp2_with (rw [HW1.out])
  refine HOF.out.mono ?_; rintro e w2 ⟨rfl, hb2⟩
  have HB2 := Lib.hid (Kit.step HB1.out hb2)
  have HG2 := Lib.hid (fx_keeps HG1.out hb2)
  have HGa : Hid ((w2.alloc (.cells Z 81)).heap[w2.heap.size]? = some (.cells Z 81 (0, 0))) := Lib.hid (World.alloc_heap_new _ _)
  obtain ⟨w3, hw3⟩ : ∃ w3, (w2.alloc (.cells Z 81)).setRow w2.heap.size Z = w3 := ⟨_, rfl⟩
  have hb3 : Below w2.heap.size w2 w3 := by rw [← hw3]; exact ((Below.refl _ _).alloc (Nat.le_refl _) _).trans (below_setRow (Nat.le_refl _))
  have HB3 := Lib.hid (Kit.step HB2.out hb3)
  have HG3 := Lib.hid (fx_keeps HG2.out hb3)
  have HW3 := Lib.hid hw3
  obtain ⟨hcc0, hcc1, hcc2, hff0, hff1, hff2⟩ := fx_cells HG3.out
  clear hb2 hb3 hw3 HOF
  go_wp2_with (refine wpList_store_row rfl 81 (.tmp 6) (.tmp 13) rfl w2.heap.size Z rfl rfl 81 Z HGa.out HZ2.out rfl HZ1.out ?_; rw [HW3.out])
  refine bodyPost_ret (results_cell_row2 rfl _ _ w.heap.size 60 #[.slice none 0 0, .slice none 0 0, .int .i64 0] (0, 0) _ rfl (fx_set HG3.out _ _ _) Tryz.underlying60 rfl fx_size) rfl ?_
  exact ⟨rfl, HB3.out.trans ((((Below.refl _ _).setCell (p := ⟨w.heap.size, 0, none⟩) (Nat.le_refl _) _).setCell (p := ⟨w.heap.size, 1, none⟩) (Nat.le_refl _) _).setCell (p := ⟨w.heap.size, 2, none⟩) (Nat.le_refl _) _)⟩
/-- the code's Find refuses the erased places -/
structure ErCode (n : Int) (z : List Int) (A : Nat → Addr) (a : Nat) : Prop where
  find : ∀ (s : List UInt8) (v : World) (o : Option Addr) (c : Nat), s.length = 32 → RowIs v o (intsV z) c → Er.Six v A → Calls Tryz.prog 38 #[.agg (bytesV s).toArray, .int .i64 n, .slice o z.length c] v fun e w' => e = fe_v A a ∧ Below v.heap.size v w'
theorem er_code (m : Nat) (z : List Int) (A : Nat → Addr) (h1 : 33 ≤ m) (h2 : m ≤ 255) (hl : z.length ≤ 900) : (∃ a, ErCode (m : Int) z A a) ∨ EOk m z := by
  by_cases hbad : ∃ k, k < z.length ∧ (ci z k < 0 ∨ (m : Int) ≤ ci z k)
  · obtain ⟨k, hk, hkb⟩ := hbad
    refine .inl ⟨0, ⟨fun s v o c hs hr hE => (cfi_any s z m c o v A hs hr h1 h2 hl (fun _ => hE) (fun _ => hE) _ rfl).mono ?_⟩⟩
    rintro e w' ⟨hb, ⟨_, rfl⟩ | ⟨hin, _⟩⟩
    · exact ⟨rfl, hb⟩
    · have := hin k hk; omega
  · by_cases hdup : ∃ i j, j < i ∧ i < z.length ∧ ci z i = ci z j
    · obtain ⟨i, j, hj, hi, hij⟩ := hdup
      refine .inl ⟨9, ⟨fun s v o c hs hr hE => (cfi_any s z m c o v A hs hr h1 h2 hl (fun _ => hE) (fun _ => hE) _ rfl).mono ?_⟩⟩
      rintro e w' ⟨hb, ⟨hx, _⟩ | ⟨_, ⟨_, rfl⟩ | ⟨hd, _⟩⟩⟩
      · exact absurd hx hbad
      · exact ⟨rfl, hb⟩
      · exact absurd hij (hd i j hj hi)
    · by_cases h32 : 32 < z.length
      · refine .inl ⟨15, ⟨fun s v o c hs hr hE => (cfi_any s z m c o v A hs hr h1 h2 hl (fun _ => hE) (fun _ => hE) _ rfl).mono ?_⟩⟩
        rintro e w' ⟨hb, ⟨hx, _⟩ | ⟨_, ⟨hx, _⟩ | ⟨_, ⟨_, rfl⟩ | ⟨hle, _⟩⟩⟩⟩
        · exact absurd hx hbad
        · exact absurd hx hdup
        · exact ⟨rfl, hb⟩
        · omega
      · refine .inr ⟨fun k hk => ?_, fun i j hj hi h => hdup ⟨i, j, hj, hi, h⟩, by omega⟩
        have h : ¬ (ci z k < 0 ∨ (m : Int) ≤ ci z k) := fun h => hbad ⟨k, hk, h⟩
        omega
set_option maxRecDepth 100000 in
set_option maxHeartbeats 4000000 in
theorem cfix_bad (W : List UInt8) (z : List Int) (n c cz a : Nat) (o oz : Option Addr) (w : World) (A : Nat → Addr) (hW : RowIs w o (bytesV W) c) (hZ : RowIs w oz (intsV z) cz) (hn : W.length = n) (h33 : 33 ≤ n) (h255 : n ≤ 255) (hE : Er.Six w A) (hB : ErCode (n : Int) z A a)
    (Z : Array Value) (hZs : (bytesV zsyn).toArray = Z) (CS : Array Value) (hCS : (bytesV (synL W)).toArray = CS) :
    Calls Tryz.prog 24 #[.slice o n c, .slice oz z.length cz] w fun e w' => e = fx_v A a ∧ Below w.heap.size w w' := by
  obtain ⟨w1, hw1⟩ : ∃ w1, w.alloc (.cells #[.slice none 0 0, .slice none 0 0, .int .i64 0] 60) = w1 := ⟨_, rfl⟩
  have hb1 : Below w.heap.size w w1 := by rw [← hw1]; exact (Below.refl _ _).alloc (Nat.le_refl _) _
  have hg1 : w1.heap[w.heap.size]? = some (.cells #[.slice none 0 0, .slice none 0 0, .int .i64 0] 60 (0, 0)) := by rw [← hw1]; exact World.alloc_heap_new _ _
  have hof := of_any W o c w1 (hW.later hb1) (by omega)
  rw [hCS, hn] at hof
  have HOF := Lib.hid hof
  have HFI : Hid (∀ v, RowIs v oz (intsV z) cz → Er.Six v A → Calls Tryz.prog 38 #[.agg CS, .int .i64 (n : Int), .slice oz z.length cz] v fun e w' => e = fe_v A a ∧ Below v.heap.size v w') := Lib.hid fun v h1 h2 => by
    rw [← hCS]
    exact hB.find (synL W) v oz cz (by simp [synL]) h1 h2
  have HZ := Lib.hid hZ
  have HE := Lib.hid hE
  have HB1 := Lib.hid hb1
  have HG1 := Lib.hid hg1
  have HW1 := Lib.hid hw1
  have hzs := czero_syn
  rw [hZs] at hzs
  have hz1 := one_cell (synL W)
  rw [hCS] at hz1
  have HZ1 := Lib.hid hz1
  have hz2 := csyn_size (ys := synL W) (by simp [synL])
  rw [hCS] at hz2
  have HZ2 := Lib.hid hz2
  have HZC : Hid (Z.size = CS.size) := Lib.hid (by rw [← hZs, ← hCS]; simp [zsyn, synL])
  have hbw : n ≤ c := by have := hW.le; simp at this; omega
  have hbc : c ≤ 9223372036854775807 := by have := hW.cap; unfold maxLen at this; omega
  clear hE hW hZ hZs hCS hb1 hg1 hw1 hof hz1 hz2 hn h33 h255 hB
  go_enter Tryz.func24, Tryz.ntmps24
  go_wp2_with (rw [HW1.out])
  refine HOF.out.mono ?_; rintro e w2 ⟨rfl, hb2⟩
  have HB2 := Lib.hid (Kit.step HB1.out hb2)
  have HG2 := Lib.hid (fx_keeps HG1.out hb2)
  have HGa : Hid ((w2.alloc (.cells Z 81)).heap[w2.heap.size]? = some (.cells Z 81 (0, 0))) := Lib.hid (World.alloc_heap_new _ _)
  obtain ⟨w3, hw3⟩ : ∃ w3, (w2.alloc (.cells Z 81)).setRow w2.heap.size CS = w3 := ⟨_, rfl⟩
  have hb3 : Below w2.heap.size w2 w3 := by rw [← hw3]; exact ((Below.refl _ _).alloc (Nat.le_refl _) _).trans (below_setRow (Nat.le_refl _))
  have HS3 : Hid (w3.heap[w2.heap.size]? = some (.cells CS 81 (0, 0))) := Lib.hid (by rw [← hw3]; exact setRow_heap _ _ _ _ _ _ HGa.out)
  have HB3 := Lib.hid (Kit.step HB2.out hb3)
  have HG3 := Lib.hid (fx_keeps HG2.out hb3)
  have HW3 := Lib.hid hw3
  clear hb2 hb3 hw3 HOF
  go_wp2_with (first | (refine wpList_store_row rfl 81 (.tmp 6) (.tmp 13) rfl w2.heap.size CS rfl rfl 81 Z HGa.out HZ2.out HZC.out HZ1.out ?_; rw [HW3.out]) | refine wpList_load_row rfl 81 (.tmp 6) rfl w2.heap.size rfl 81 CS (0, 0) _ HS3.out csyn_under rfl HZ2.out ?_)
  refine (HFI.out w3 (HZ.out.later HB3.out) (HE.out.later HB3.out)).mono ?_; rintro e w4 ⟨rfl, hb4⟩
  unfold fe_v fz
  have hb5 : Below w4.heap.size w4 (w4.alloc (.cells #[.int .i64 0, .slice none 0 0, .slice none 0 0] 85)) := (Below.refl _ _).alloc (Nat.le_refl _) _
  have HB5 := Lib.hid (Kit.step (Kit.step HB3.out hb4) hb5)
  have HG5 := Lib.hid (fx_keeps (fx_keeps HG3.out hb4) hb5)
  obtain ⟨hcc0, hcc1, hcc2, hff0, hff1, hff2⟩ := fx_cells HG5.out
  clear hb4 hb5
  go_wp2_with fail
  refine bodyPost_ret (results_cell_row2 rfl _ _ w.heap.size 60 #[.slice none 0 0, .slice none 0 0, .int .i64 0] (0, 0) _ rfl (fx_set HG5.out _ _ _) Tryz.underlying60 rfl fx_size) rfl ?_
  exact ⟨rfl, HB5.out.trans ((((Below.refl _ _).setCell (p := ⟨w.heap.size, 0, none⟩) (Nat.le_refl _) _).setCell (p := ⟨w.heap.size, 1, none⟩) (Nat.le_refl _) _).setCell (p := ⟨w.heap.size, 2, none⟩) (Nat.le_refl _) _)⟩
theorem tl_self (G : List UInt8) : tl (tr G) (tr G).length = (tr G).length := by rw [← tr_length, tr_tr]
theorem below_fx {w0 w : World} {g : Nat} (hb : Below w0.heap.size w0 w) (hg : w0.heap.size ≤ g) (x y v : Value) : Below w0.heap.size w0 (((w.setCell ⟨g, 0, none⟩ x).setCell ⟨g, 1, none⟩ y).setCell ⟨g, 2, none⟩ v) :=
  hb.trans ((((Below.refl _ _).setCell (p := ⟨g, 0, none⟩) hg _).setCell (p := ⟨g, 1, none⟩) hg _).setCell (p := ⟨g, 2, none⟩) hg _)
/-- a row beside the block of a result -/
theorem fx_row {w : World} {g : Nat} {o : Option Addr} {z : List UInt8} {cap : Nat} {q : Array Value} (h : w.heap[g]? = some (.cells #[.slice none 0 0, .slice none 0 0, .int .i64 0] 60 (0, 0))) (hr : RowIs w o (bytesV z) cap) : RowIs (w.setRow g q) o (bytesV z) cap :=
  ⟨hr.le, hr.cap, hr.nil, fun h0 => by
    obtain ⟨p, off, e, hlt, hc⟩ := hr.cells h0
    have h1 := hc 0 _ (bytesV_get z 0 (by simpa using h0))
    have hne : p ≠ g := fun e => by
      subst e
      have h2 := cell_of_row w p (off + 0) _ _ _ h
      rw [h1] at h2
      rcases off with _ | _ | _ | k <;> simp at h2
    refine ⟨p, off, e, by simpa [World.setRow] using hlt, fun i v hv => (World.cell?_of_block (setRow_other _ _ _ _ hne)).trans (hc i v hv)⟩⟩
/-- a list of numbers beside it -/
theorem fx_ints {w : World} {g B : Nat} {x : Value} {z : List Int} {q : Array Value} (hv : w.ownsRow B 3 1 x z.length (intsV z)) (hB : g < B) : IntsV z x (w.setRow g q) := by
  obtain ⟨o, c, rfl, hr⟩ := owns_ints hv rfl
  refine ⟨o, c, rfl, hr.le, hr.cap, hr.nil, fun h0 => ?_⟩
  obtain ⟨p, off, e, hlt, hc⟩ := hr.cells h0
  have hp := (World.ownsRow.lt hv p (by rw [e]; rfl)).1
  have hne : p ≠ g := by omega
  exact ⟨p, off, e, by simpa [World.setRow] using hlt, fun i v hv => (World.cell?_of_block (setRow_other _ _ _ _ hne)).trans (hc i v hv)⟩
set_option maxRecDepth 100000 in
set_option maxHeartbeats 8000000 in
theorem cfix_any (W : List UInt8) (z : List Int) (n c cz : Nat) (o oz : Option Addr) (w : World) (A : Nat → Addr) (hW : RowIs w o (bytesV W) c) (hZ : RowIs w oz (intsV z) cz) (hn : W.length = n) (h33 : 33 ≤ n) (h255 : n ≤ 255) (hok : EOk n z)
    (hE : (∀ v H, ¬ Chg v W n z H) → Er.Six w A) (Z : Array Value) (hZs : (bytesV zsyn).toArray = Z) (CS : Array Value) (hCS : (bytesV (synL W)).toArray = CS) :
    Calls Tryz.prog 24 #[.slice o n c, .slice oz z.length cz] w (FxTo W n z A w) := by
  obtain ⟨w1, hw1⟩ : ∃ w1, w.alloc (.cells #[.slice none 0 0, .slice none 0 0, .int .i64 0] 60) = w1 := ⟨_, rfl⟩
  have hb1 : Below w.heap.size w w1 := by rw [← hw1]; exact (Below.refl _ _).alloc (Nat.le_refl _) _
  have hg1 : w1.heap[w.heap.size]? = some (.cells #[.slice none 0 0, .slice none 0 0, .int .i64 0] 60 (0, 0)) := by rw [← hw1]; exact World.alloc_heap_new _ _
  have hof := of_any W o c w1 (hW.later hb1) (by omega)
  rw [hCS, hn] at hof
  have HOF := Lib.hid hof
  have hz32 := hok.2.2
  have HLO : Hid ((∃ C L, RF (forL (synL W) (Gf.locL (xsL n z))) C L ∧ (32 < 2 * L + z.length ∨ (tr C).length ≤ L)) → ∀ v H, ¬ Chg v W n z H) := Lib.hid fun ⟨C, L, hrf, hc⟩ v H h => by
    obtain ⟨h1, h2, _⟩ := h.roots hrf
    have := h.few
    omega
  have HNO : Hid (∀ C L, RF (forL (synL W) (Gf.locL (xsL n z))) C L → (srP (ertL C n z) n n).length ≠ L + z.length → ∀ v H, ¬ Chg v W n z H) := Lib.hid fun C L hrf hc v H h => hc (h.roots hrf).2.2
  have HFI : Hid (∀ v, Below w.heap.size w v → Calls Tryz.prog 38 #[.agg CS, .int .i64 (n : Int), .slice oz z.length cz] v (CFiTo (synL W) n z A v)) := Lib.hid fun v hb => 
    cfi_any (synL W) z n cz oz v A (by simp [synL]) (hZ.later hb) h33 h255 (by omega) (fun h => absurd hok h) (fun h => (hE (HLO.out h)).later hb) CS hCS
  have HW := Lib.hid hW
  have HE := Lib.hid hE
  have HN := Lib.hid hn
  have HOK := Lib.hid hok
  have h33 := Lib.hid h33
  have h255 := Lib.hid h255
  have HB1 := Lib.hid hb1
  have HG1 := Lib.hid hg1
  have HW1 := Lib.hid hw1
  have hzs := czero_syn
  rw [hZs] at hzs
  have hz1 := one_cell (synL W)
  rw [hCS] at hz1
  have HZ1 := Lib.hid hz1
  have hz2 := csyn_size (ys := synL W) (by simp [synL])
  rw [hCS] at hz2
  have HZ2 := Lib.hid hz2
  have HZC : Hid (Z.size = CS.size) := Lib.hid (by rw [← hZs, ← hCS]; simp [zsyn, synL])
  have hbw : n ≤ c := by have := hW.le; simp at this; omega
  have hbc : c ≤ 9223372036854775807 := by have := hW.cap; unfold maxLen at this; omega
  clear hE hW hZ hZs hCS hb1 hg1 hw1 hof hz1 hz2 hn hok hz32
  go_enter Tryz.func24, Tryz.ntmps24
  go_wp2_with (rw [HW1.out])
  refine HOF.out.mono ?_; rintro e w2 ⟨rfl, hb2⟩
  have HB2 := Lib.hid (Kit.step HB1.out hb2)
  have HG2 := Lib.hid (fx_keeps HG1.out hb2)
  have HGa : Hid ((w2.alloc (.cells Z 81)).heap[w2.heap.size]? = some (.cells Z 81 (0, 0))) := Lib.hid (World.alloc_heap_new _ _)
  obtain ⟨w3, hw3⟩ : ∃ w3, (w2.alloc (.cells Z 81)).setRow w2.heap.size CS = w3 := ⟨_, rfl⟩
  have hb3 : Below w2.heap.size w2 w3 := by rw [← hw3]; exact ((Below.refl _ _).alloc (Nat.le_refl _) _).trans (below_setRow (Nat.le_refl _))
  have HS3 : Hid (w3.heap[w2.heap.size]? = some (.cells CS 81 (0, 0))) := Lib.hid (by rw [← hw3]; exact setRow_heap _ _ _ _ _ _ HGa.out)
  have HB3 := Lib.hid (Kit.step HB2.out hb3)
  have HG3 := Lib.hid (fx_keeps HG2.out hb3)
  have HW3 := Lib.hid hw3
  clear hb2 hb3 hw3 HOF
  go_wp2_with (first | (refine wpList_store_row rfl 81 (.tmp 6) (.tmp 13) rfl w2.heap.size CS rfl rfl 81 Z HGa.out HZ2.out HZC.out HZ1.out ?_; rw [HW3.out]) | refine wpList_load_row rfl 81 (.tmp 6) rfl w2.heap.size rfl 81 CS (0, 0) _ HS3.out csyn_under rfl HZ2.out ?_)
  refine (HFI.out w3 HB3.out).mono ?_; rintro e w4 ⟨hb4, hto⟩
  have HB4 := Lib.hid (Kit.step HB3.out hb4)
  have HG4 := Lib.hid (fx_keeps HG3.out hb4)
  clear hb4
  rcases hto with ⟨⟨k, hk, h⟩, _⟩ | ⟨_, ⟨⟨i, j, hj, hi, h⟩, _⟩ | ⟨_, ⟨h, _⟩ | ⟨h32, C, L, hrf, hto⟩⟩⟩
  · have := HOK.out.1 k hk; omega
  · exact absurd h (HOK.out.2.1 i j hj hi)
  · have := HOK.out.2.2; omega
  rcases hto with ⟨hlost, rfl⟩ | ⟨hn2, hn3, x1, x2, rfl, hx1, hx2⟩
  · have HL := Lib.hid (HLO.out ⟨C, L, hrf, hlost⟩)
    unfold fe_v fz
    have hb5 : Below w4.heap.size w4 (w4.alloc (.cells #[.int .i64 0, .slice none 0 0, .slice none 0 0] 85)) := (Below.refl _ _).alloc (Nat.le_refl _) _
    have HB5 := Lib.hid (Kit.step HB4.out hb5)
    have HG5 := Lib.hid (fx_keeps HG4.out hb5)
    obtain ⟨hcc0, hcc1, hcc2, hff0, hff1, hff2⟩ := fx_cells HG5.out
    clear hb5 hlost hrf
    go_wp2_with fail
    refine bodyPost_ret (results_cell_row2 rfl _ _ w.heap.size 60 #[.slice none 0 0, .slice none 0 0, .int .i64 0] (0, 0) _ rfl (fx_set HG5.out _ _ _) Tryz.underlying60 rfl fx_size) rfl ?_
    exact ⟨below_fx HB5.out (Nat.le_refl _) _ _ _, .inl ⟨HL.out, rfl⟩⟩
  · obtain ⟨G, hG⟩ : ∃ G, ertL C n z = G := ⟨_, rfl⟩
    obtain ⟨O, hO⟩ : ∃ O, evaL (synL W) C n z = O := ⟨_, rfl⟩
    have hgl := ert_len (n := n) (z := z) hrf.len hn3
    have hgt : tl G G.length = L + z.length + 1 := by
      rw [← hgl, ← hG]
      unfold ertL
      exact tl_self _
    have hno := HNO.out C L hrf
    have hro := fun h => roots_reg hrf HN.out h255.out HOK.out hn2 hn3 h
    have hfo : ∀ H, Reg W C n L z H → All n z H (srP G n n) → (∀ p ∈ srP G n n, evL (slopeL G) (vi n p) ≠ 0) ∧ Chg (putW W (amS G O n)) W n z H := fun H h1 h2 => by
      rw [← hG] at h2 ⊢
      obtain ⟨h3, h4⟩ := h1.forney h2
      refine ⟨h3, ?_⟩
      rw [← hO]
      exact h1.chg h2 _ (by unfold amS; rw [List.map_map]; exact List.map_id _) h4
    rw [hG] at hx1 hgl hno hro
    rw [hO] at hx2
    obtain ⟨oG, cG, rfl, hx1⟩ := hx1
    obtain ⟨oO, cO, rfl, hx2⟩ := hx2
    obtain ⟨w5, hw5⟩ : ∃ w5, w4.alloc (.cells #[.int .i64 (L : Int), .slice oG G.length cG, .slice oO O.length cO] 85) = w5 := ⟨_, rfl⟩
    have hb5 : Below w4.heap.size w4 w5 := by rw [← hw5]; exact (Below.refl _ _).alloc (Nat.le_refl _) _
    have hf5 : w5.heap[w4.heap.size]? = some (.cells #[.int .i64 (L : Int), .slice oG G.length cG, .slice oO O.length cO] 85 (0, 0)) := by rw [← hw5]; exact World.alloc_heap_new _ _
    have HB5 := Lib.hid (Kit.step HB4.out hb5)
    have HG5 := Lib.hid (fx_keeps HG4.out hb5)
    have HW5 := Lib.hid hw5
    have HF5 := Lib.hid hf5
    have hGl : G.length ≤ 1000 := by omega
    have HX1 := Lib.hid (hx1.later hb5)
    have HX2 := Lib.hid (hx2.later hb5)
    by_cases hS : (srP G n n).length = L + z.length
    · obtain ⟨H, hr, hall⟩ := hro hS
      have hHL := hr.len
      obtain ⟨hne, hchg⟩ := hfo H hr hall
      have HCO := Lib.hid (corrected_ok W G O (.int .i64 (L : Int)) o oG oO c cG cO n w5 (HW.out.later HB5.out) HX1.out HX2.out HN.out h33.out h255.out hGl (by omega) hne)
      have HCH := Lib.hid hchg
      have HHL := Lib.hid hHL
      obtain ⟨R, hR⟩ : ∃ R, putW W (amS G O n) = R := ⟨_, rfl⟩
      rw [hR] at HCO HCH
      have hRl : R.length = n := by rw [← hR, putW_length, HN.out]
      have HRL := Lib.hid hRl
      clear hG hO hgl hgt hno hro hfo hx1 hx2 hb5 hf5 hw5 hGl hS hr hall hHL hne hchg hrf hn2 hn3 h32 hR hRl
      obtain ⟨gf, hgf⟩ : ∃ gf, w4.heap.size = gf := ⟨_, rfl⟩
      rw [hgf] at HF5
      go_wp2_with (first | rw [HW5.out] | refine wpList_load_row rfl 85 (.tmp 8) rfl gf rfl 85 _ (0, 0) _ HF5.out Tryz.underlying85 rfl fnd_size ?_)
      try rw [HW5.out]
      refine HCO.out.mono ?_; rintro e w6 ⟨xR, rfl, ⟨oR, cR, rfl, hR6⟩, hb6⟩
      rw [HRL.out]
      have HB6 := Lib.hid (Kit.step HB5.out hb6)
      have HG6 := Lib.hid (fx_keeps HG5.out hb6)
      have HF6 := Lib.hid (found_keeps HF5.out hb6)
      have HR6 := Lib.hid hR6
      have HDF : Hid (∀ v, Below w6.heap.size w6 v → Calls Tryz.prog 40 #[.slice o n c, .slice oR n cR] v fun e w' => ∃ x, e = .returned x ∧ w'.ownsRow v.heap.size 3 1 x (dfL W R n).length (intsV (dfL W R n)) ∧ Below v.heap.size v w') := Lib.hid fun v hb => by
        have := differ_own W R o oR c cR v (HW.out.later (Kit.step HB6.out hb)) (hR6.later hb) (by rw [HN.out, HRL.out]) (by rw [HN.out]; have := h255.out; omega)
        rwa [HN.out, HRL.out] at this
      have hlc : n ≤ cR := by have := hR6.le; simp [HRL.out] at this; omega
      have hlc2 : cR ≤ 9223372036854775807 := by have := hR6.cap; unfold maxLen at this; omega
      have hcf := (found_cell (show w6.drew.heap[gf]? = _ from HF6.out)).1
      have HBD : Hid (Below w6.heap.size w6 w6.drew) := Lib.hid ⟨rfl, rfl, rfl, Nat.le_refl _, fun _ _ => rfl⟩
      have HGL : Hid (w.heap.size < w6.drew.heap.size) := Lib.hid (by
        have h1 := (Array.getElem?_eq_some_iff.1 HG6.out).1
        exact h1)
      clear hb6 hR6 HCO
      go_wp2_with fail
      refine wp_region_any (by kernel_rfl) ?_
      change wpAny _ _ _ _ _ _ _ (World.drew _)
      refine wpAny_take (i := 0) (v := ?va1) rfl (by kernel_rfl) (by kernel_rfl) (by kernel_rfl) (fun _ _ _ h => h) (Or.inl ⟨by rfl, ?ha1⟩) ?ra1
      case ha1 => (intro w; (go_simp <;> with_reducible rfl))
      refine wpAny_take (i := 1) (v := ?va2) rfl (by kernel_rfl) (by kernel_rfl) (by kernel_rfl) (fun _ _ _ h => h) (Or.inl ⟨by rfl, ?ha2⟩) ?ra2
      case ha2 => (intro w; (go_simp <;> with_reducible rfl))
      refine wpAny_take (i := 2) (v := ?va3) rfl (by kernel_rfl) (by kernel_rfl) (by kernel_rfl) (fun _ _ _ h => h) (Or.inl ⟨by rfl, ?ha3⟩) ?ra3
      case ha3 => (intro w; (go_simp <;> with_reducible rfl))
      refine wpAny_take (i := 4) (v := ?va4) rfl (by kernel_rfl) (by kernel_rfl) (by kernel_rfl) (fun _ _ _ h => h) (Or.inl ⟨by rfl, ?ha4⟩) ?ra4
      case ha4 => (intro w; (go_simp <;> with_reducible rfl))
      refine wpAny_ready (rs := [3, 5]) (by kernel_rfl) (by simp) ?_
      refine AllReady.cons rfl (fun K hK => ?_) (AllReady.cons rfl (fun K hK => ?_) AllReady.nil)
      · go_simp
        refine (HDF.out _ HBD.out).mono ?_; rintro e w7 ⟨x7, rfl, hv7, hb7⟩
        obtain ⟨o7, c7, rfl, _⟩ := owns_ints hv7 rfl
        have hcf7 := (found_cell (found_keeps (show w6.drew.heap[gf]? = _ from HF6.out) hb7)).1
        have HV7 := Lib.hid hv7
        have HG7 := Lib.hid (fx_keeps (show w6.drew.heap[w.heap.size]? = _ from HG6.out) hb7)
        have HB7 := Lib.hid (Kit.step (Kit.dn HB6.out 1) hb7)
        have HR7 := Lib.hid ((HR6.out.later HBD.out).later hb7)
        clear hv7 hb7
        refine hK _ _ ?_
        clear hK K
        refine wpAny_ready (rs := [5]) (by kernel_rfl) (by simp) ?_
        refine AllReady.cons rfl (fun K hK => ?_) AllReady.nil
        go_simp
        refine hK _ _ ?_
        clear hK K
        refine wpAny_ready (rs := [6]) (by kernel_rfl) (by simp) ?_
        refine AllReady.cons rfl (fun K hK => ?_) AllReady.nil
        go_simp
        refine hK _ _ ?_
        clear hK K
        refine wpAny_ready (rs := [7]) (by kernel_rfl) (by simp) ?_
        refine AllReady.cons rfl (fun K hK => ?_) AllReady.nil
        rw [if_pos (by rfl)]
        refine wp_store_row 60 (.tmp 4) (.tmp 47) rfl w.heap.size #[.slice oR n cR, .slice o7 (dfL W R n).length c7, .int .i64 (L : Int)] rfl rfl 60 _ HG7.out fx_size rfl (by simp [Value.oneCell']) (hK _ _ ?_)
        clear hK K
        refine wpAny_ready (rs := [8]) (by kernel_rfl) (by simp) ?_
        refine AllReady.cons rfl (fun K hK => ?_) AllReady.nil
        go_simp
        refine hK _ _ ?_
        clear hK K
        refine wpAny_done (by kernel_rfl) ?_ _
        go_wp2_with fail
        refine bodyPost_ret (results_cell_row2 rfl _ _ w.heap.size 60 #[.slice oR n cR, .slice o7 (dfL W R n).length c7, .int .i64 (L : Int)] (0, 0) _ rfl (setRow_heap _ _ _ _ _ _ HG7.out) Tryz.underlying60 rfl fx_size) rfl ?_
        refine ⟨HB7.out.trans (below_setRow (Nat.le_refl _)), .inr ⟨R, H, _, _, HCH.out, by rw [HHL.out]; rfl, ⟨oR, cR, by rw [HRL.out], fx_row HG7.out HR7.out⟩, fx_ints HV7.out HGL.out⟩⟩
      · go_simp
        refine hK _ _ ?_
        clear hK K
        refine wpAny_ready (rs := [3]) (by kernel_rfl) (by simp) ?_
        refine AllReady.cons rfl (fun K hK => ?_) AllReady.nil
        go_simp
        refine (HDF.out _ HBD.out).mono ?_; rintro e w7 ⟨x7, rfl, hv7, hb7⟩
        obtain ⟨o7, c7, rfl, _⟩ := owns_ints hv7 rfl
        have HV7 := Lib.hid hv7
        have HG7 := Lib.hid (fx_keeps (show w6.drew.heap[w.heap.size]? = _ from HG6.out) hb7)
        have HB7 := Lib.hid (Kit.step (Kit.dn HB6.out 1) hb7)
        have HR7 := Lib.hid ((HR6.out.later HBD.out).later hb7)
        clear hv7 hb7
        refine hK _ _ ?_
        clear hK K
        refine wpAny_ready (rs := [6]) (by kernel_rfl) (by simp) ?_
        refine AllReady.cons rfl (fun K hK => ?_) AllReady.nil
        go_simp
        refine hK _ _ ?_
        clear hK K
        refine wpAny_ready (rs := [7]) (by kernel_rfl) (by simp) ?_
        refine AllReady.cons rfl (fun K hK => ?_) AllReady.nil
        rw [if_pos (by rfl)]
        refine wp_store_row 60 (.tmp 4) (.tmp 47) rfl w.heap.size #[.slice oR n cR, .slice o7 (dfL W R n).length c7, .int .i64 (L : Int)] rfl rfl 60 _ HG7.out fx_size rfl (by simp [Value.oneCell']) (hK _ _ ?_)
        clear hK K
        refine wpAny_ready (rs := [8]) (by kernel_rfl) (by simp) ?_
        refine AllReady.cons rfl (fun K hK => ?_) AllReady.nil
        go_simp
        refine hK _ _ ?_
        clear hK K
        refine wpAny_done (by kernel_rfl) ?_ _
        go_wp2_with fail
        refine bodyPost_ret (results_cell_row2 rfl _ _ w.heap.size 60 #[.slice oR n cR, .slice o7 (dfL W R n).length c7, .int .i64 (L : Int)] (0, 0) _ rfl (setRow_heap _ _ _ _ _ _ HG7.out) Tryz.underlying60 rfl fx_size) rfl ?_
        refine ⟨HB7.out.trans (below_setRow (Nat.le_refl _)), .inr ⟨R, H, _, _, HCH.out, by rw [HHL.out]; rfl, ⟨oR, cR, by rw [HRL.out], fx_row HG7.out HR7.out⟩, fx_ints HV7.out HGL.out⟩⟩
    · have hnc := hno hS
      have HNC := Lib.hid hnc
      have hE5 := (HE.out hnc).later HB5.out
      have HCO := Lib.hid (corrected_lost W G O (.int .i64 (L : Int)) o oG oO c cG cO n w5 (HW.out.later HB5.out) HX1.out HX2.out HN.out h33.out h255.out hGl (by omega) _ _ hE5.c16)
      clear hG hO hgl hgt hno hro hfo hx1 hx2 hb5 hf5 hw5 hGl hS hrf hn2 hn3 h32 hnc hE5
      obtain ⟨gf, hgf⟩ : ∃ gf, w4.heap.size = gf := ⟨_, rfl⟩
      rw [hgf] at HF5
      go_wp2_with (first | rw [HW5.out] | refine wpList_load_row rfl 85 (.tmp 8) rfl gf rfl 85 _ (0, 0) _ HF5.out Tryz.underlying85 rfl fnd_size ?_)
      try rw [HW5.out]
      refine HCO.out.mono ?_; rintro e w6 ⟨rfl, hb6⟩
      have HB6 := Lib.hid (Kit.step HB5.out hb6)
      have HG6 := Lib.hid (fx_keeps HG5.out hb6)
      obtain ⟨hcc0, hcc1, hcc2, hff0, hff1, hff2⟩ := fx_cells HG6.out
      clear hb6 HCO
      go_wp2_with fail
      refine bodyPost_ret (results_cell_row2 rfl _ _ w.heap.size 60 #[.slice none 0 0, .slice none 0 0, .int .i64 0] (0, 0) _ rfl (fx_set HG6.out _ _ _) Tryz.underlying60 rfl fx_size) rfl ?_
      exact ⟨below_fx HB6.out (Nat.le_refl _) _ _ _, .inl ⟨HNC.out, rfl⟩⟩
/-- what Only answers: a word with no other places wrong -/
def OnTo (W : List UInt8) (n : Nat) (z : List Int) (A : Nat → Addr) (w : World) (e : Ending) (w' : World) : Prop :=
  Below w.heap.size w w' ∧ (((∀ v H, Chg v W n z H → H.length ≠ 0) ∧ e = .returned (.tuple #[.slice none 0 0, .iface 152 (.pointer (some (A 16)))])) ∨ ∃ v x1, Chg v W n z [] ∧ e = .returned (.tuple #[x1, .nilIface]) ∧ RowV v x1 w')
theorem ne_nil_of {v W : List UInt8} {n : Nat} {z : List Int} {H : List Nat} (h : Chg v W n z H) (h0 : H.length = 0) : Chg v W n z [] := by
  have : H = [] := List.eq_nil_of_length_eq_zero h0
  rwa [this] at h
end Go.Proofs.YtgifbpjmblemhaaGreatDoor
namespace Go.Proofs.YtgifbpjmblemhaaGreatDoor
open Go.RowKit
set_option linter.unusedVariables false
set_option linter.unusedSimpArgs false
theorem eok_nil (n : Nat) : EOk n [] := ⟨fun k hk => absurd hk (by simp), fun i j hj hi => absurd hi (by simp), by simp⟩
theorem chg_ex (V : List UInt8) (hV : V.length = 35) (hc : IsCode V) (h2 : co V 1 = 2) : Chg V (V.set 1 9) 35 [] [1] :=
  ⟨hc, hV, by rw [List.length_set, hV], by omega, eok_nil 35, by simp, fun p hp => by
    simp at hp
    subst hp
    refine ⟨by omega, ?_, by simp⟩
    rw [co_set, if_pos ⟨rfl, by omega⟩, h2]
    decide, fun p hp hne _ => by
    rw [co_set] at hne
    by_cases h : 1 = p ∧ 1 < V.length
    · rw [← h.1]; simp
    · rw [if_neg h] at hne
      exact absurd rfl hne, by simp⟩
end Go.Proofs.YtgifbpjmblemhaaGreatDoor
