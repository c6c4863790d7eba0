/- A hash: New, end, Sum, Of: the code's. -/
import Derived.Test.YtalilmnpobgffaaDoorHh
import Derived.OwnWalk
import Derived.Great.BuildSlice
namespace Go.Proofs.YtalilmnpobgffaaDoor
open Go.RowKit
set_option linter.unusedVariables false
set_option linter.unusedSimpArgs false
theorem hash_built : Tryd.prog.built 55 [] = some (hcs (List.replicate 8 0) (List.replicate 64 0) 0).toArray := by kernel_rfl
theorem hash_under : (match Tryd.prog.underlying 55 with | some (.struct _) => true | _ => false) = true := by kernel_rfl
set_option maxRecDepth 100000 in
theorem new_of (Z : Array Value) (hb : Tryd.prog.built 55 [] = some Z) (w : World) : Calls Tryd.prog 9 #[] w fun e w' => e = .returned (.pointer (some ⟨w.heap.size, 0, none⟩)) ∧ w' = w.alloc (.cells Z 55) := by
  have HB := Lib.hid hb
  clear hb
  go_enter Tryd.func9, Tryd.ntmps9
  go_wp2_with (first | refine wpList_built rfl 55 _ rfl [] (by simp) Z HB.out ?_)
  go_ret
  exact ⟨rfl, rfl⟩
theorem new_any (w : World) : Calls Tryd.prog 9 #[] w fun e w' => e = .returned (.pointer (some ⟨w.heap.size, 0, none⟩)) ∧ Hash w' w.heap.size [] ∧ Below w.heap.size w w' ∧ w'.heap.size = w.heap.size + 1 := by
  refine (new_of _ hash_built w).mono ?_
  rintro e w' ⟨rfl, rfl⟩
  exact ⟨rfl, ⟨_, _, Arr.made _ _ _, rfl, rfl, fun h => absurd rfl h⟩, (Below.refl _ _).alloc (Nat.le_refl _) _, World.size_alloc _ _⟩
theorem arr_of_own {W : World} {base : Nat} {T : TypeId} {g n : Nat} {xs : List Value} (h : W.ownsRow base T 1 (.slice (some ⟨g, 0, none⟩) n n) n xs) : Arr W g T xs ∧ base ≤ g := by
  obtain ⟨h1, h2 | ⟨g', cap, cur, e, hb, hg, hn, hc, hs, ht⟩⟩ := h
  · cases h2.1
  · cases e
    refine ⟨?_, hb⟩
    unfold Arr
    rw [hg, ← ht, List.take_of_length_le (by simp [hs])]
theorem made_bytes (n : Nat) : (madeCells #[.int .u8 0] n).toList = bytesV (List.replicate n 0) := by
  rw [toList_madeCells_one]
  simp [bytesV]
theorem Arr.row {W : World} {g : Nat} {T : TypeId} {z : List UInt8} (h : Arr W g T (bytesV z)) (hl : z.length ≤ maxLen) : RowIs W (some ⟨g, 0, none⟩) (bytesV z) z.length :=
  ⟨by simp, hl, fun h => by (cases h), fun h0 => ⟨g, 0, rfl, h.lt, fun i v hv => by rw [Nat.zero_add, h.cell]; exact hv⟩⟩
/-- what is laid behind the bytes, the first so many of its last bytes -/
def en (n j : Nat) : List UInt8 := (List.range (Da.zn n + 9)).map fun p => if p = 0 then 128 else if Da.zn n + 8 - p < j then UInt8.ofNat (8 * n / 256 ^ (Da.zn n + 8 - p)) else 0
theorem en_length (n j : Nat) : (en n j).length = Da.zn n + 9 := by simp [en]
theorem en_zero (n : Nat) : (List.replicate (Da.zn n + 9) (0 : UInt8)).set 0 128 = en n 0 := by
  refine List.ext_getElem (by simp [en]) fun p h1 h2 => ?_
  simp only [en, List.getElem_set, List.getElem_map, List.getElem_range, Nat.not_lt_zero, if_false, List.getElem_replicate]
  by_cases e : p = 0
  · subst e; simp
  · rw [if_neg (fun h => e h.symm), if_neg e]
theorem en_step (n j : Nat) (hj : j < 8) : (en n j).set (Da.zn n + 8 - j) (UInt8.ofNat (8 * n / 256 ^ j)) = en n (j + 1) := by
  refine List.ext_getElem (by simp [en]) fun p h1 h2 => ?_
  simp only [en, List.getElem_set, List.getElem_map, List.getElem_range]
  have hp : p < Da.zn n + 9 := by simpa [en] using h2
  by_cases e : Da.zn n + 8 - j = p
  · subst e
    rw [if_pos rfl, if_neg (by omega), if_pos (by omega), show Da.zn n + 8 - (Da.zn n + 8 - j) = j by omega]
  · rw [if_neg e]
    by_cases e0 : p = 0
    · rw [if_pos e0, if_pos e0]
    · rw [if_neg e0, if_neg e0]
      by_cases e2 : Da.zn n + 8 - p < j
      · rw [if_pos e2, if_pos (by omega)]
      · rw [if_neg e2, if_neg (by omega)]
theorem en_end (n j : Nat) (hj : j ≤ 8) (h0 : 8 * n / 256 ^ j = 0) : en n j = Da.pad n := by
  refine List.ext_getElem (by rw [en_length, Da.pad_length]) fun p h1 h2 => ?_
  have hp : p < Da.zn n + 9 := by simpa [en] using h1
  simp only [en, List.getElem_map, List.getElem_range, Da.pad]
  cases p with
  | zero => simp
  | succ p =>
    rw [if_neg (by omega), List.getElem_cons_succ, List.getElem_append]
    have hz : ∀ q, j ≤ q → 8 * n / 256 ^ q = 0 := fun q hq => by
      have h1 : 256 ^ j ≤ 256 ^ q := Nat.pow_le_pow_right (by decide) hq
      have h2 := Nat.div_eq_zero_iff.1 h0
      refine Nat.div_eq_of_lt ?_
      rcases h2 with h2 | h2
      · have := Nat.pow_pos (n := j) (show 0 < 256 by decide); omega
      · omega
    by_cases e : p < Da.zn n
    · rw [dif_pos (by simpa using e), List.getElem_replicate]
      by_cases e2 : Da.zn n + 8 - (p + 1) < j
      · omega
      · rw [if_neg e2]
    · rw [dif_neg (by simpa using e)]
      simp only [Da.be8, List.getElem_map, List.getElem_range, List.length_replicate]
      rw [show 7 - (p - Da.zn n) = Da.zn n + 8 - (p + 1) by omega]
      by_cases e2 : Da.zn n + 8 - (p + 1) < j
      · rw [if_pos e2]
      · rw [if_neg e2, hz _ (by omega)]; rfl
def En1 (n g : Nat) (w : World) (i l : Value) (wr : World) : Prop :=
  ∃ j : Nat, j ≤ 8 ∧ i = .int .i64 ((Da.zn n + 8 - j : Nat) : Int) ∧ l = .int .u64 ((8 * n / 256 ^ j : Nat) : Int) ∧ Arr wr g 5 (bytesV (en n j)) ∧ Below w.heap.size w wr
set_option maxRecDepth 100000 in
theorem end_any (n : Nat) (hn : n ≤ 1000000) (w : World) : Calls Tryd.prog 21 #[.int .i64 (n : Int)] w fun e w' => ∃ g, e = .returned (.slice (some ⟨g, 0, none⟩) (Da.pad n).length (Da.pad n).length) ∧ w.heap.size ≤ g ∧ RowIs w' (some ⟨g, 0, none⟩) (bytesV (Da.pad n)) (Da.pad n).length ∧ Below w.heap.size w w' := by
  obtain ⟨i0, hi, hz0, hz1, hz2⟩ := info_parts info_u8
  obtain ⟨m, hm⟩ : ∃ m, n % 64 = m := ⟨_, rfl⟩
  obtain ⟨S, hS⟩ : ∃ S, Da.zn n + 9 = S := ⟨_, rfl⟩
  obtain ⟨d, hd⟩ : ∃ d, 64 - m = d := ⟨_, rfl⟩
  have hm0 : Int.tmod (n : Int) 64 = (m : Int) := by rw [← hm]; rfl
  have hml : m < 64 := by omega
  have h64 : (64 : Int) - (m : Int) = (d : Int) := by omega
  have hSd : (d < 9 → S = d + 64) ∧ (¬ d < 9 → S = d) := by
    rw [← hS, ← hd, ← hm]; unfold Da.zn
    constructor
    · intro h; rw [if_pos h]; omega
    · intro h; rw [if_neg h]; omega
  have hd1 : 1 ≤ d := by omega
  have hd2 : d ≤ 64 := by omega
  have HS := Lib.hid hS
  have HD := Lib.hid hd
  have HM := Lib.hid hm
  clear hS hd hm
  by_cases hlt : d < 9
  · have hS1 : (d : Int) + 64 = (S : Int) := by have := hSd.1 hlt; omega
    have hS2 : S ≤ 128 := by omega
    have hS3 : 9 ≤ S := by omega
    clear hSd
    go_enter Tryd.func21, Tryd.ntmps21
    go_wp2_with (at_make; refine wpList_make_full _ rfl _ _ 24 rfl 0 5 i0 (.int .u8 0) 1 Tryd.underlying24 hi hz0 hz1 _ _ _ _ S rfl rfl (by omega) (by omega) (by rw [hz2]; omega) (by unfold maxLen; omega) (Nat.zero_le _) ?_)
    intro w1 hown hgrow
    have hb1 : Below w.heap.size w w1 := (Below.refl _ _).grown hgrow (Nat.le_refl _) (fun k h => by cases h)
    obtain ⟨g, hg⟩ : ∃ g, w.heap.size = g := ⟨_, rfl⟩
    rw [hg] at hown
    rw [made_bytes] at hown
    have hA1 := (arr_of_own hown).1
    have hc0 : w1.cell? ⟨g, 0, none⟩ = some (.int .u8 0) := by rw [hA1.cell]; simp [bytesV, show 0 < S by omega]
    have hf0 := hA1.frozen 0
    obtain ⟨w2, hw2⟩ : ∃ w2, w1.setCell ⟨g, 0, none⟩ (.int .u8 128) = w2 := ⟨_, rfl⟩
    have hA2 : Arr w2 g 5 (bytesV (en n 0)) := by
      rw [← hw2, ← en_zero, ← bytesV_set', HS.out]
      exact hA1.set 0 _
    have hb2 : Below w.heap.size w w2 := by rw [← hw2]; exact hA1.below hb1 (by omega) 0 _
    have HA2 := Lib.hid hA2
    have HB2 := Lib.hid hb2
    have HW2 := Lib.hid hw2
    have HG := Lib.hid hg
    clear hown hgrow hb1 hA1 hA2 hb2 hw2
    go_wp2_with fail
    rw [HW2.out]
    clear HW2 hc0 hf0
    go_loopw [5, 6] (fun i l wr => En1 n g w i l wr) (fun _ l _ => (intOf l).toNat)
    case atStart => exact ⟨0, Nat.zero_le _, by rw [show ((S : Int) - 1) = ((Da.zn n + 8 - 0 : Nat) : Int) from by have := HS.out; omega], by rw [Nat.pow_zero, Nat.div_one]; go_num, HA2.out, HB2.out⟩
    case round =>
      rename World => W1
      obtain ⟨j, hj, rfl, rfl, hA1, hB1⟩ := hrel
      by_cases hpos : 0 < 8 * n / 256 ^ j
      · have hj3 : j < 3 := by
          refine Classical.byContradiction fun hge => ?_
          have h1 : 256 ^ 3 ≤ 256 ^ j := Nat.pow_le_pow_right (by decide) (by omega)
          have h2 : 8 * n / 256 ^ j = 0 := Nat.div_eq_of_lt (by have : (256 : Nat) ^ 3 = 16777216 := rfl; omega)
          omega
        have HE := Lib.hid (en_step n j (by omega))
        have HD2 : Hid (8 * n / 256 ^ (j + 1) = 8 * n / 256 ^ j / 256) := Lib.hid (by rw [Nat.pow_succ, Nat.div_div_eq_div_mul])
        have hxl : 8 * n / 256 ^ j ≤ 8000000 := Nat.le_trans (Nat.div_le_self _ _) (by omega)
        obtain ⟨x, hx⟩ : ∃ x, 8 * n / 256 ^ j = x := ⟨_, rfl⟩
        rw [hx] at HE HD2 hxl hpos
        rw [hx]
        obtain ⟨u, hu⟩ : ∃ u, Da.zn n + 8 - j = u := ⟨_, rfl⟩
        rw [hu] at HE
        rw [hu]
        have hu1 : u < S := by have := HS.out; omega
        have hu2 : 1 ≤ u := by omega
        have HU := Lib.hid hu
        have hcu : ∃ y : UInt8, W1.cell? ⟨g, u, none⟩ = some (.int .u8 (y.toNat : Int)) := ⟨_, by rw [hA1.cell]; exact bytesV_get _ u (by rw [en_length, HS.out]; exact hu1)⟩
        obtain ⟨y, hcu⟩ := hcu
        have hfu := hA1.frozen u
        have HV : Hid (IntKind.u8.wrap (x : Int) = ((UInt8.ofNat x).toNat : Int)) := Lib.hid (by rw [IntKind.wrap_u8, UInt8.toNat_ofNat']; omega)
        have HA1 := Lib.hid hA1
        have HB1 := Lib.hid hB1
        clear hA1 hB1 hx hu
        go_wp2_with fail
        refine ⟨⟨j + 1, by omega, ?_, ?_, ?_, ?_⟩, by simp only [intOf]; omega⟩
        · rw [show ((u : Int) - 1) = ((Da.zn n + 8 - (j + 1) : Nat) : Int) from by have := HU.out; omega]
        · rw [HD2.out]; rfl
        · rw [show ((x : Int) % 256) = ((UInt8.ofNat x).toNat : Int) from by rw [UInt8.toNat_ofNat']; omega, ← HE.out, ← bytesV_set']
          exact HA1.out.set u _
        · exact HA1.out.below HB1.out (Nat.le_of_eq HG.out) u _
      · have hz : 8 * n / 256 ^ j = 0 := Nat.eq_zero_of_not_pos hpos
        rw [en_end n j hj hz] at hA1
        have hpl : (Da.pad n).length = S := by rw [Da.pad_length]; exact HS.out
        have HR : Hid (RowIs W1 (some ⟨g, 0, none⟩) (bytesV (Da.pad n)) S) := Lib.hid (by rw [← hpl]; exact hA1.row (by rw [hpl]; unfold maxLen; omega))
        have HB1 := Lib.hid hB1
        have HPL := Lib.hid hpl
        rw [hz]
        clear hA1 hB1 hpl
        rw [show (((0 : Nat) : Int)) = 0 from rfl]
        go_wp2_with fail
        go_ret
        exact ⟨g, by rw [HPL.out, ← HG.out]; rfl, by have := HG.out; omega, by rw [HPL.out]; exact HR.out, HB1.out⟩
  · have hS1 : S = d := hSd.2 hlt
    subst hS1
    have hS2 : S ≤ 128 := by omega
    have hS3 : 9 ≤ S := by omega
    clear hSd
    go_enter Tryd.func21, Tryd.ntmps21
    go_wp2_with (at_make; refine wpList_make_full _ rfl _ _ 24 rfl 0 5 i0 (.int .u8 0) 1 Tryd.underlying24 hi hz0 hz1 _ _ _ _ S rfl rfl (by omega) (by omega) (by rw [hz2]; omega) (by unfold maxLen; omega) (Nat.zero_le _) ?_)
    intro w1 hown hgrow
    have hb1 : Below w.heap.size w w1 := (Below.refl _ _).grown hgrow (Nat.le_refl _) (fun k h => by cases h)
    obtain ⟨g, hg⟩ : ∃ g, w.heap.size = g := ⟨_, rfl⟩
    rw [hg] at hown
    rw [made_bytes] at hown
    have hA1 := (arr_of_own hown).1
    have hc0 : w1.cell? ⟨g, 0, none⟩ = some (.int .u8 0) := by rw [hA1.cell]; simp [bytesV, show 0 < S by omega]
    have hf0 := hA1.frozen 0
    obtain ⟨w2, hw2⟩ : ∃ w2, w1.setCell ⟨g, 0, none⟩ (.int .u8 128) = w2 := ⟨_, rfl⟩
    have hA2 : Arr w2 g 5 (bytesV (en n 0)) := by
      rw [← hw2, ← en_zero, ← bytesV_set', HS.out]
      exact hA1.set 0 _
    have hb2 : Below w.heap.size w w2 := by rw [← hw2]; exact hA1.below hb1 (by omega) 0 _
    have HA2 := Lib.hid hA2
    have HB2 := Lib.hid hb2
    have HW2 := Lib.hid hw2
    have HG := Lib.hid hg
    clear hown hgrow hb1 hA1 hA2 hb2 hw2
    go_wp2_with fail
    rw [HW2.out]
    clear HW2 hc0 hf0
    go_loopw [5, 6] (fun i l wr => En1 n g w i l wr) (fun _ l _ => (intOf l).toNat)
    case atStart => exact ⟨0, Nat.zero_le _, by rw [show ((S : Int) - 1) = ((Da.zn n + 8 - 0 : Nat) : Int) from by have := HS.out; omega], by rw [Nat.pow_zero, Nat.div_one]; go_num, HA2.out, HB2.out⟩
    case round =>
      rename World => W1
      obtain ⟨j, hj, rfl, rfl, hA1, hB1⟩ := hrel
      by_cases hpos : 0 < 8 * n / 256 ^ j
      · have hj3 : j < 3 := by
          refine Classical.byContradiction fun hge => ?_
          have h1 : 256 ^ 3 ≤ 256 ^ j := Nat.pow_le_pow_right (by decide) (by omega)
          have h2 : 8 * n / 256 ^ j = 0 := Nat.div_eq_of_lt (by have : (256 : Nat) ^ 3 = 16777216 := rfl; omega)
          omega
        have HE := Lib.hid (en_step n j (by omega))
        have HD2 : Hid (8 * n / 256 ^ (j + 1) = 8 * n / 256 ^ j / 256) := Lib.hid (by rw [Nat.pow_succ, Nat.div_div_eq_div_mul])
        have hxl : 8 * n / 256 ^ j ≤ 8000000 := Nat.le_trans (Nat.div_le_self _ _) (by omega)
        obtain ⟨x, hx⟩ : ∃ x, 8 * n / 256 ^ j = x := ⟨_, rfl⟩
        rw [hx] at HE HD2 hxl hpos
        rw [hx]
        obtain ⟨u, hu⟩ : ∃ u, Da.zn n + 8 - j = u := ⟨_, rfl⟩
        rw [hu] at HE
        rw [hu]
        have hu1 : u < S := by have := HS.out; omega
        have hu2 : 1 ≤ u := by omega
        have HU := Lib.hid hu
        have hcu : ∃ y : UInt8, W1.cell? ⟨g, u, none⟩ = some (.int .u8 (y.toNat : Int)) := ⟨_, by rw [hA1.cell]; exact bytesV_get _ u (by rw [en_length, HS.out]; exact hu1)⟩
        obtain ⟨y, hcu⟩ := hcu
        have hfu := hA1.frozen u
        have HV : Hid (IntKind.u8.wrap (x : Int) = ((UInt8.ofNat x).toNat : Int)) := Lib.hid (by rw [IntKind.wrap_u8, UInt8.toNat_ofNat']; omega)
        have HA1 := Lib.hid hA1
        have HB1 := Lib.hid hB1
        clear hA1 hB1 hx hu
        go_wp2_with fail
        refine ⟨⟨j + 1, by omega, ?_, ?_, ?_, ?_⟩, by simp only [intOf]; omega⟩
        · rw [show ((u : Int) - 1) = ((Da.zn n + 8 - (j + 1) : Nat) : Int) from by have := HU.out; omega]
        · rw [HD2.out]; rfl
        · rw [show ((x : Int) % 256) = ((UInt8.ofNat x).toNat : Int) from by rw [UInt8.toNat_ofNat']; omega, ← HE.out, ← bytesV_set']
          exact HA1.out.set u _
        · exact HA1.out.below HB1.out (Nat.le_of_eq HG.out) u _
      · have hz : 8 * n / 256 ^ j = 0 := Nat.eq_zero_of_not_pos hpos
        rw [en_end n j hj hz] at hA1
        have hpl : (Da.pad n).length = S := by rw [Da.pad_length]; exact HS.out
        have HR : Hid (RowIs W1 (some ⟨g, 0, none⟩) (bytesV (Da.pad n)) S) := Lib.hid (by rw [← hpl]; exact hA1.row (by rw [hpl]; unfold maxLen; omega))
        have HB1 := Lib.hid hB1
        have HPL := Lib.hid hpl
        rw [hz]
        clear hA1 hB1 hpl
        rw [show (((0 : Nat) : Int)) = 0 from rfl]
        go_wp2_with fail
        go_ret
        exact ⟨g, by rw [HPL.out, ← HG.out]; rfl, by have := HG.out; omega, by rw [HPL.out]; exact HR.out, HB1.out⟩
end Go.Proofs.YtalilmnpobgffaaDoor
