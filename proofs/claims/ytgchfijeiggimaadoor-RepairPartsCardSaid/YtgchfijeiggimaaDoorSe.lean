/- The code's parts of mending: an inverse, whether a size fits, the places of a locator's roots, the amount at a place, what is left of the parity. -/
import Derived.Test.YtgchfijeiggimaaDoorFp
import Derived.Test.YtgchfijeiggimaaDoorDf
import Derived.Test.YtgchfijeiggimaaDoorErr
import Derived.Test.YtgchfijeiggimaaDoorSp
import Derived.BigQuiet
namespace Go.Proofs.YtgchfijeiggimaaDoor
open Go.RowKit
set_option linter.unusedVariables false
set_option linter.unusedSimpArgs false
theorem cinv_u8 (a : UInt8) (h : a ≠ 0) (w : World) : Calls Tryd.prog 31 #[.int .u8 (a.toNat : Int)] w fun e w' => e = .returned (.tuple #[.int .u8 ((Gf.gd 1 a).toNat : Int), .nilIface]) ∧ w' = w := by
  have h0 : a.toNat ≠ 0 := fun e => h (Gf.u8_ext e)
  have hy : (UInt8.ofNat (Gf.inv a.toNat)).toNat = Gf.inv a.toNat := by
    have := Gf.inv_lt a.toNat
    rw [UInt8.toNat_ofNat']
    omega
  have h1 : Gf.gm a (UInt8.ofNat (Gf.inv a.toNat)) = 1 := Gf.u8_ext (by rw [Gf.gm_nat, hy, Gf.mul_inv _ h0 (UInt8.toNat_lt a)]; rfl)
  rw [← inv_only h1, hy]
  refine (inv_pos a.toNat h0 (UInt8.toNat_lt a) w).mono ?_
  rintro e w' ⟨rfl, rfl⟩
  exact ⟨rfl, rfl⟩
theorem cplace_u8 (n k : Nat) (hk : k < n) (h33 : 33 ≤ n) (h255 : n ≤ 255) (w : World) : Calls Tryd.prog 32 #[.int .i64 (n : Int), .int .i64 (k : Int)] w fun e w' => e = .returned (.int .u8 ((Gf.al (n - 1 - k)).toNat : Int)) ∧ w' = w := by
  have h := cpower_any (n : Int) (k : Int) w
  have e : pwv (n : Int) (k : Int) = Gf.al (n - 1 - k) := by
    unfold pwv
    rw [if_pos (by omega)]
    congr 1
    omega
  rwa [e] at h
theorem cbeyond_u8 (n : Nat) (k : Int) (hk : k < 0 ∨ (n : Int) ≤ k) (w : World) : Calls Tryd.prog 32 #[.int .i64 (n : Int), .int .i64 k] w fun e w' => e = .returned (.int .u8 0) ∧ w' = w := by
  have h := cpower_any (n : Int) k w
  have e : pwv (n : Int) k = 0 := by
    unfold pwv
    rw [if_neg (by omega)]
  rwa [e] at h
set_option maxRecDepth 100000 in
theorem rpfits_any (n : Int) (w : World) : Calls Tryd.prog 29 #[.int .i64 n] w fun e w' => e = .returned (.bool (decide (33 ≤ n ∧ n ≤ 255))) ∧ w' = w := by
  have C := Lib.hid (cpower_any n 0 w)
  by_cases h : 33 ≤ n ∧ n ≤ 255
  · have e : pwv n 0 = Gf.al (n - 1 - 0).toNat := by
      unfold pwv
      rw [if_pos (by omega)]
    have hne : ¬ ((pwv n 0).toNat : Int) = 0 := fun h2 => by
      rw [e] at h2
      exact Gf.al_ne (n - 1 - 0).toNat (Gf.u8_ext (by simpa using h2))
    rw [decide_eq_true h]
    have hnb : (((pwv n 0).toNat : Int) == 0) = false := beq_false_of_ne hne
    have hnt : (((pwv n 0).toNat : Int) != 0) = true := by rw [bne_iff_ne]; exact hne
    generalize pwv n 0 = x at *
    clear h e
    go_enter Tryd.func29, Tryd.ntmps29
    go_wp2_with fail
    refine C.out.mono ?_; rintro e w' ⟨rfl, rfl⟩
    go_wp2_with fail
    go_ret
    exact ⟨rfl, rfl⟩
  · have e : pwv n 0 = 0 := by
      unfold pwv
      rw [if_neg (by omega)]
    rw [decide_eq_false h]
    rw [e] at C
    clear h e
    go_enter Tryd.func29, Tryd.ntmps29
    go_wp2_with fail
    refine C.out.mono ?_; rintro e w' ⟨rfl, rfl⟩
    go_wp2_with fail
    go_ret
    exact ⟨rfl, rfl⟩
theorem mem_zl (p : List UInt8) (y : UInt8) (k : Nat) (hk : k ≤ 256) : y ∈ zl p k ↔ y.toNat < k ∧ evL p y = 0 := by
  induction k with
  | zero => simp [zl]
  | succ k ih =>
    have ih := ih (by omega)
    have hn : (UInt8.ofNat k).toNat = k := by rw [UInt8.toNat_ofNat']; omega
    unfold zl
    by_cases h : evL p (UInt8.ofNat k) = 0
    · rw [if_pos h, List.mem_append, ih, List.mem_singleton]
      constructor
      · rintro (⟨h1, h2⟩ | rfl)
        · exact ⟨by omega, h2⟩
        · exact ⟨by omega, h⟩
      · rintro ⟨h1, h2⟩
        by_cases h3 : y.toNat = k
        · exact .inr (by rw [← h3, UInt8.ofNat_toNat])
        · exact .inl ⟨by omega, h2⟩
    · rw [if_neg h, ih]
      constructor
      · rintro ⟨h1, h2⟩
        exact ⟨by omega, h2⟩
      · rintro ⟨h1, h2⟩
        refine ⟨?_, h2⟩
        have : y.toNat ≠ k := fun h3 => h (by rw [← h3, UInt8.ofNat_toNat]; exact h2)
        omega
/-- an array of Booleans -/
def ARow (W : World) (g : Nat) (f : Nat → Bool) : Prop := W.heap[g]? = some (.cells ((List.range 256).map fun i => Value.bool (f i)).toArray 68 (0, 0))
theorem ARow.cell {W : World} {g : Nat} {f : Nat → Bool} (h : ARow W g f) (i : Nat) (hi : i < 256) : W.cell? ⟨g, i, none⟩ = some (.bool (f i)) := by
  rw [cell_of_row _ _ i _ _ _ h]
  simp [hi]
theorem ARow.frozen {W : World} {g : Nat} {f : Nat → Bool} (h : ARow W g f) (i : Nat) : W.frozen? ⟨g, i, none⟩ = false := by
  unfold World.frozen?; rw [show W.heap[g]? = _ from h]; rfl
theorem ARow.later {W W' : World} {g : Nat} {f : Nat → Bool} (h : ARow W g f) (hb : Below W.heap.size W W') : ARow W' g f := by
  unfold ARow at *
  rw [hb.block g (Array.getElem?_eq_some_iff.1 h).1]; exact h
theorem ARow.cong {W : World} {g : Nat} {f f' : Nat → Bool} (h : ARow W g f) (he : ∀ i, i < 256 → f i = f' i) : ARow W g f' := by
  unfold ARow at *
  rw [h]
  congr 2
  exact congrArg List.toArray (List.map_congr_left fun i hi => by rw [he i (List.mem_range.1 hi)])
theorem ARow.store {W : World} {g : Nat} {f : Nat → Bool} (h : ARow W g f) (i : Nat) (b : Bool) : ARow (W.setCell ⟨g, i, none⟩ (.bool b)) g (fun j => if j = i then b else f j) ∧ Only g W (W.setCell ⟨g, i, none⟩ (.bool b)) := by
  have e1 := setCell_eq_setRow W g i _ _ _ (.bool b) h
  have h1 := setRow_heap W g _ (((List.range 256).map fun i => Value.bool (f i)).toArray.setIfInBounds i (.bool b)) _ _ h
  rw [← e1] at h1
  refine ⟨?_, ?_⟩
  · unfold ARow
    rw [h1]
    congr 2
    apply Array.ext_getElem?
    intro k
    rw [Array.getElem?_setIfInBounds]
    by_cases hk : i = k
    · subst hk
      by_cases hn : i < 256
      · simp [hn]
      · simp [hn]
    · rw [if_neg hk]
      by_cases hn : k < 256
      · simp [hn]
        exact fun h => absurd h.symm hk
      · simp [hn]
  · rw [e1]
    exact ⟨rfl, rfl, rfl, by simp [World.setRow], fun k hk hn => setRow_other W g k _ (fun e => hn (by rw [e]))⟩
theorem ARow.apart {W : World} {g c : Nat} {f : Nat → Bool} {o : Option Addr} {z : List UInt8} (h : ARow W g f) (hr : RowIs W o (bytesV z) c) : 0 < (bytesV z).length → ∀ p, o = some p → p.block ≠ g := fun h0 p e hp => by
  obtain ⟨b, off, e2, hlt, hc⟩ := hr.cells h0
  rw [e] at e2
  cases e2
  have hp : b = g := hp
  subst hp
  have h1 := hc 0 _ (bytesV_get z 0 (by simpa using h0))
  rw [cell_of_row _ _ _ _ _ _ h] at h1
  simp at h1
def ab : Array Value := Array.replicate 256 (.bool false)
theorem zero_abools (w : World) : Sem.run Tryd.prog (zeroValue 68) w = .ok (.agg ab) w := by kernel_rfl
theorem bools_none (n : Nat) : Array.replicate n (Value.bool false) = ((List.range n).map fun _ => Value.bool false).toArray := by
  apply Array.ext
  · simp
  · intro k h1 h2
    simp
theorem arow_new (w : World) : ARow (w.alloc (.cells ab 68)) w.heap.size (fun _ => false) := by
  have h := World.alloc_heap_new w (.cells ab 68)
  have e : ab = ((List.range 256).map fun _ => Value.bool false).toArray := bools_none 256
  unfold ARow
  rw [h, e]
def SeAt (z : List UInt8) (g : Nat) (o : Option Addr) (c : Nat) (w : World) (iv : Value) (wr : World) : Prop :=
  ∃ k : Nat, k ≤ z.length ∧ iv = .int .i64 k ∧ ARow wr g (fun q => decide (UInt8.ofNat q ∈ z.take k)) ∧ RowIs wr o (bytesV z) c ∧ Below w.heap.size w wr
def SfAt (P : List UInt8) (n : Nat) (w : World) (v p : Value) (wr : World) : Prop :=
  ∃ k : Nat, k ≤ n ∧ p = .int .i64 k ∧ wr.ownsRow w.heap.size 3 1 v (srI P n k).length (intsV (srI P n k)) ∧ Below w.heap.size w wr
theorem take_memU {k : Nat} {z : List UInt8} (hk : k < z.length) (q : Nat) (hq : q < 256) : (if q = (co z k).toNat then true else decide (UInt8.ofNat q ∈ z.take k)) = decide (UInt8.ofNat q ∈ z.take (k + 1)) := by
  have e : z.take (k + 1) = z.take k ++ [co z k] := by
    rw [List.take_add_one, List.getElem?_eq_getElem hk]
    simp [co, List.getD_eq_getElem?_getD, List.getElem?_eq_getElem hk]
  rw [e]
  by_cases h : q = (co z k).toNat
  · rw [if_pos h, h, UInt8.ofNat_toNat]
    simp
  · rw [if_neg h]
    have h2 : ¬ UInt8.ofNat q = co z k := fun e => h (by rw [← e, UInt8.toNat_ofNat']; omega)
    simp [h2]
theorem srI_no {P : List UInt8} {n k : Nat} (h : ¬ evL P (vi n k) = 0) : srI P n (k + 1) = srI P n k := by unfold srI; rw [srP_no h]
theorem srI_yes {P : List UInt8} {n k : Nat} (h : evL P (vi n k) = 0) : srI P n k ++ [(k : Int)] = srI P n (k + 1) := by unfold srI; rw [srP_yes h]; simp
theorem search_bad (n : Int) (m c : Nat) (o : Option Addr) (w : World) (h : ¬ (33 ≤ n ∧ n ≤ 255)) :
    Calls Tryd.prog 12 #[.slice o m c, .int .i64 n] w fun e w' => e = .returned (.slice none 0 0) ∧ w' = w := by
  have hf := rpfits_any n w
  rw [decide_eq_false h] at hf
  have HF := Lib.hid hf
  clear hf h
  go_enter Tryd.func12, Tryd.ntmps12
  go_wp2_with fail
  refine HF.out.mono ?_; rintro e w' ⟨rfl, rfl⟩
  go_wp2_with fail
  go_ret
  exact ⟨rfl, rfl⟩
set_option maxRecDepth 100000 in
set_option maxHeartbeats 4000000 in
theorem search_any (P : List UInt8) (n c : Nat) (o : Option Addr) (w : World) (hP : RowIs w o (bytesV P) c) (h33 : 33 ≤ n) (h255 : n ≤ 255) :
    Calls Tryd.prog 12 #[.slice o P.length c, .int .i64 (n : Int)] w fun e w' => ∃ x B, e = .returned x ∧ w.heap.size ≤ B ∧ w'.ownsRow B 3 1 x (srI P n n).length (intsV (srI P n n)) ∧ Below w.heap.size w w' := by
  have hf := rpfits_any (n : Int) w
  rw [decide_eq_true (by omega : 33 ≤ (n : Int) ∧ (n : Int) ≤ 255)] at hf
  have HF := Lib.hid hf
  have HP := Lib.hid hP
  have h33 := Lib.hid h33
  have h255 := Lib.hid h255
  have hza := zero_abools
  obtain ⟨Z, hZ⟩ : ∃ Z, ab = Z := ⟨_, rfl⟩
  rw [hZ] at hza
  obtain ⟨w1, hw1⟩ : ∃ w1, w.alloc (.cells Z 68) = w1 := ⟨_, rfl⟩
  have HA1 : Hid (ARow w1 w.heap.size (fun _ => false)) := Lib.hid (by rw [← hw1, ← hZ]; exact arow_new w)
  have hb1 : Below w.heap.size w w1 := by rw [← hw1]; exact (Below.refl _ _).alloc (Nat.le_refl _) _
  have HB1 := Lib.hid hb1
  have HZR := Lib.hid (zeros_any P o c w1 (hP.later hb1))
  have HW1 := Lib.hid hw1
  have HZL := Lib.hid (zl_length P 256)
  have HGL : Hid (w.heap.size ≤ w.heap.size) := Lib.hid (Nat.le_refl _)
  clear hf hP hZ hb1 hw1
  go_enter Tryd.func12, Tryd.ntmps12
  go_wp2_with fail
  refine HF.out.mono ?_; rintro e w' ⟨rfl, rfl⟩
  clear HF
  go_wp2_with (rw [HW1.out])
  refine HZR.out.mono ?_; rintro e w2 ⟨x, rfl, ⟨oz, cz, rfl, hz⟩, hb⟩
  obtain ⟨z, hzz⟩ : ∃ z, zl P 256 = z := ⟨_, rfl⟩
  have HMZ : Hid (∀ y : UInt8, y ∈ z ↔ evL P y = 0) := Lib.hid fun y => by
    rw [← hzz, mem_zl P y 256 (Nat.le_refl _)]
    have := UInt8.toNat_lt y
    constructor
    · exact fun h => h.2
    · exact fun h => ⟨this, h⟩
  rw [hzz] at hz HZL
  have hz256 := HZL.out
  obtain ⟨g, hg⟩ : ∃ g, w'.heap.size = g := ⟨_, rfl⟩
  have HA2 : Hid (ARow w2 g (fun q => decide (UInt8.ofNat q ∈ z.take 0))) := Lib.hid (by rw [← hg]; exact (HA1.out.later hb).cong fun i _ => by simp)
  have HB2 := Lib.hid (Kit.step HB1.out hb)
  have HZ2 := Lib.hid hz
  have hcz := hz.cap
  unfold maxLen at hcz
  have hcl := hz.le
  simp only [bytesV_length] at hcl
  have HGG := Lib.hid hg
  rw [hzz]
  clear hz hb hzz HZR HA1 HZL
  rw [hg]
  clear hg
  go_wp2_with fail
  go_loopw [7, 18] (fun _ iv wr => SeAt z g oz cz w' iv wr) (fun _ iv _ => z.length - (intOf iv).toNat)
  case atStart => exact ⟨0, Nat.zero_le _, rfl, HA2.out, HZ2.out, HB2.out⟩
  case round =>
    obtain ⟨k, hk, rfl, hA, hR, hb⟩ := hrel
    have HB := Lib.hid hb
    by_cases hlt : k < z.length
    · obtain ⟨b, off, rfl, hb0, hcell⟩ := hR.cells (by simp; omega)
      have hc1 : wr.cell? ⟨b, off + k, none⟩ = some (.int .u8 ((co z k).toNat : Int)) := hcell k _ (bytesV_get z k hlt)
      have hp256 := UInt8.toNat_lt (co z k)
      have hp0 : (0 : Int) ≤ ((co z k).toNat : Int) := by omega
      have hp1 : ((co z k).toNat : Int) < 256 := by omega
      have hk0 : (0 : Int) ≤ (k : Int) := by omega
      have hk1 : (k : Int) < (z.length : Int) := by omega
      have hcg := hA.cell (co z k).toNat hp256
      have hfg := hA.frozen (co z k).toNat
      have hst := hA.store (co z k).toNat true
      have HA3 : Hid (ARow (wr.setCell ⟨g, (co z k).toNat, none⟩ (.bool true)) g (fun q => decide (UInt8.ofNat q ∈ z.take (k + 1)))) := Lib.hid (hst.1.cong fun i hi => take_memU hlt i hi)
      have HR3 : Hid (RowIs (wr.setCell ⟨g, (co z k).toNat, none⟩ (.bool true)) (some ⟨b, off, none⟩) (bytesV z) cz) := Lib.hid (Only.row hst.2 hR (hA.apart hR))
      have HB3 : Hid (Below w'.heap.size w' (wr.setCell ⟨g, (co z k).toNat, none⟩ (.bool true))) := Lib.hid (hb.trans (Only.below hst.2 (by rw [← HGG.out]; exact Nat.le_refl _) hb.size))
      clear hA hR hb hst HB hcell
      generalize co z k = x at *
      go_wp2_with fail
      go_roundw
      case rel => exact ⟨k + 1, by omega, by go_num, HA3.out, HR3.out, HB3.out⟩
      case measure => simp [intOf]; omega
    · obtain rfl : k = z.length := by omega
      rename World => wA
      have HAA : Hid (ARow wA g (fun q => decide (UInt8.ofNat q ∈ z))) := Lib.hid (hA.cong fun i _ => by rw [List.take_length])
      have HO0 : Hid (wA.ownsRow wA.heap.size 3 1 (.slice none 0 0) 0 (intsV [])) := Lib.hid (World.ownsRow_nil _ _ _ _)
      clear hA hR hb HA2 HZ2 HB2
      go_wp2_with fail
      go_loopw [8, 9, 10, 11, 26] (fun v _ _ _ p wr => SfAt P n wA v p wr) (fun _ _ _ _ p _ => n - (intOf p).toNat)
      case atStart => exact ⟨0, Nat.zero_le _, rfl, HO0.out, Below.refl _ _⟩
      case round =>
        obtain ⟨k, hk, rfl, hv, hb2⟩ := hrel
        have HV := Lib.hid hv
        have HB2 := Lib.hid hb2
        have hn33 := h33.out
        have hn255 := h255.out
        have hsl := srP_le P n k
        by_cases hlt : k < n
        · have hk0 : (0 : Int) ≤ (k : Int) := by omega
          have hk1 : (k : Int) < (n : Int) := by omega
          obtain ⟨y, hy⟩ : ∃ y, vi n k = y := ⟨_, rfl⟩
          have hye : Gf.gd 1 (Gf.al (n - 1 - k)) = y := hy
          have HPW : Hid (∀ v, Calls Tryd.prog 32 #[.int .i64 (n : Int), .int .i64 (k : Int)] v fun e w' => e = .returned (.int .u8 ((Gf.al (n - 1 - k)).toNat : Int)) ∧ w' = v) := Lib.hid fun v => cplace_u8 n k hlt hn33 hn255 v
          have HIV : Hid (∀ v, Calls Tryd.prog 31 #[.int .u8 ((Gf.al (n - 1 - k)).toNat : Int)] v fun e w' => e = .returned (.tuple #[.int .u8 (y.toNat : Int), .nilIface]) ∧ w' = v) := Lib.hid fun v => by rw [← hye]; exact cinv_u8 _ (Gf.al_ne _) v
          have hp256 := UInt8.toNat_lt y
          have hp0 : (0 : Int) ≤ (y.toNat : Int) := by omega
          have hp1 : (y.toNat : Int) < 256 := by omega
          have hcg := (HAA.out.later hb2).cell y.toNat hp256
          rw [UInt8.ofNat_toNat] at hcg
          generalize Gf.al (n - 1 - k) = xk at *
          by_cases he : evL P y = 0
          · rw [decide_eq_true ((HMZ.out y).2 he)] at hcg
            have HA : Hid (srI P n k ++ [(k : Int)] = srI P n (k + 1)) := Lib.hid (srI_yes (by rw [hy]; exact he))
            obtain ⟨w5, hw5⟩ : ∃ w5, wr.alloc (.cells #[.int .i64 (k : Int)] 3) = w5 := ⟨_, rfl⟩
            have hb5 : Below wr.heap.size wr w5 := by rw [← hw5]; exact (Below.refl _ _).alloc (Nat.le_refl _) _
            have HO5 : Hid (w5.ownsRow wA.heap.size 3 1 _ (srI P n k).length (intsV (srI P n k))) := Lib.hid (by rw [← hw5]; exact World.ownsRow.alloc hv _)
            have HC5 : Hid (w5.cell? ⟨wr.heap.size, 0, none⟩ = some (.int .i64 (k : Int))) := Lib.hid (by rw [← hw5, cell_of_row _ _ 0 _ _ _ (World.alloc_heap_new wr _)]; rfl)
            have HB5 := Lib.hid (Kit.step hb2 hb5)
            have HW5 := Lib.hid hw5
            have HSL : Hid ((srI P n k).length ≤ 1000) := Lib.hid (by rw [srI_length]; omega)
            clear hv hb2 hy hye he hw5 hb5 hsl hn33 hn255
            go_wp2_with fail
            refine (HPW.out _).mono ?_; rintro e w3 ⟨rfl, rfl⟩
            go_wp2_with fail
            refine (HIV.out _).mono ?_; rintro e w3 ⟨rfl, rfl⟩
            go_wp2_with (first | rw [HW5.out] | (at_builtin; refine append_int rfl (.tmp 43) (.tmp 45) rfl wA.heap.size _ (srI P n k).length (srI P n k) rfl HO5.out _ (k : Int) rfl HC5.out (by have := HSL.out; omega) HB5.out.size ?_))
            intro v6 w6 hv6 hg6
            have HO6 : Hid (w6.ownsRow wA.heap.size 3 1 v6 (srI P n (k + 1)).length (intsV (srI P n (k + 1)))) := Lib.hid (by rw [← HA.out]; simpa using hv6)
            have HB6 := Lib.hid (own_belowI HB5.out HO5.out hg6)
            clear hv6 hg6
            go_wp2_with fail
            go_roundw
            case rel => exact ⟨k + 1, by omega, by go_num, HO6.out, HB6.out⟩
            case measure => simp [intOf]; omega
          · rw [decide_eq_false (fun h => he ((HMZ.out y).1 h))] at hcg
            have HA : Hid (srI P n (k + 1) = srI P n k) := Lib.hid (srI_no (by rw [hy]; exact he))
            clear hv hb2 hy hye he hsl hn33 hn255
            go_wp2_with fail
            refine (HPW.out _).mono ?_; rintro e w3 ⟨rfl, rfl⟩
            go_wp2_with fail
            refine (HIV.out _).mono ?_; rintro e w3 ⟨rfl, rfl⟩
            go_wp2_with fail
            go_roundw
            case rel => exact ⟨k + 1, by omega, by go_num, by rw [HA.out]; exact HV.out, HB2.out⟩
            case measure => simp [intOf]; omega
        · obtain rfl : n = k := by omega
          have HBL := Lib.hid HB.out.size
          have HR := Lib.hid hv
          have HBE := Lib.hid (Kit.step HB.out hb2)
          clear hv hb2
          go_wp2_with fail
          go_ret
          exact ⟨_, _, rfl, HBL.out, HR.out, HBE.out⟩
end Go.Proofs.YtgchfijeiggimaaDoor
