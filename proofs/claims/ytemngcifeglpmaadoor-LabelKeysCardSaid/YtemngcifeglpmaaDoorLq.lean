/- The document's All. -/
import Derived.Test.YtemngcifeglpmaaDoorLp
import Derived.Test.YtemngcifeglpmaaDoorLf
namespace Go.Proofs.YtemngcifeglpmaaDoor.Da
def pk (l : List (List UInt8)) (q : Nat) : List (List UInt8) := (List.range 5).map fun i => if i < q then bi l i else []
theorem pk_length (l : List (List UInt8)) (q : Nat) : (pk l q).length = 5 := by simp [pk]
theorem pk_zero (l : List (List UInt8)) : pk l 0 = [[], [], [], [], []] := rfl
theorem pk_end (k : List UInt8) (n : Int) : pk (keysL k n) 5 = keysL k n := rfl
theorem pk_step (l : List (List UInt8)) (q : Nat) (_hq : q < 5) : (pk l q).set q (bi l q) = pk l (q + 1) := by
  refine List.ext_getElem (by simp [pk]) fun j h1 h2 => ?_
  simp only [pk, List.getElem_set, List.getElem_map, List.getElem_range]
  by_cases e : q = j
  · subst e; simp
  · rw [if_neg e]
    by_cases e2 : j < q
    · rw [if_pos e2, if_pos (show j < q + 1 by omega)]
    · rw [if_neg e2, if_neg (show ¬ j < q + 1 by omega)]
/-- the labels of an object's keys, as texts -/
def lb (q : Nat) : ByteArray := match q with
  | 0 => ⟨#[109, 97, 115, 107]⟩
  | 1 => ⟨#[112, 108, 97, 99, 101]⟩
  | 2 => ⟨#[115, 101, 110, 116, 105, 110, 101, 108]⟩
  | 3 => ⟨#[116, 97, 103]⟩
  | _ => ⟨#[115, 112, 111, 116]⟩
theorem lb_lab (q : Nat) (hq : q < 5) : isLab (lb q).data.toList = true := by
  match q, hq with
  | 0, _ => decide
  | 1, _ => decide
  | 2, _ => decide
  | 3, _ => decide
  | 4, _ => decide
theorem lb_small (q : Nat) (hq : q < 5) : (lb q).size ≤ 1000 := by
  match q, hq with
  | 0, _ => decide
  | 1, _ => decide
  | 2, _ => decide
  | 3, _ => decide
  | 4, _ => decide
theorem lb_key (k : List UInt8) (n : Int) (q : Nat) (hq : q < 5) : keyL k (lb q).data.toList n = bi (keysL k n) q := by
  match q, hq with
  | 0, _ => rfl
  | 1, _ => rfl
  | 2, _ => rfl
  | 3, _ => rfl
  | 4, _ => rfl
theorem kbad_abad (m r : Bool) : kbad m true r = abad m r := rfl
end Go.Proofs.YtemngcifeglpmaaDoor.Da
namespace Go.Proofs.YtemngcifeglpmaaDoor
open Go.RowKit
set_option linter.unusedVariables false
set_option linter.unusedSimpArgs false
def lbV : List Value := [.string (Da.lb 0), .string (Da.lb 1), .string (Da.lb 2), .string (Da.lb 3), .string (Da.lb 4)]
theorem lbV_at (q : Nat) (hq : q < 5) : lbV[q]? = some (.string (Da.lb q)) := by
  match q, hq with
  | 0, _ => rfl
  | 1, _ => rfl
  | 2, _ => rfl
  | 3, _ => rfl
  | 4, _ => rfl
/-- a row of bytes doesn't lie among slices -/
theorem row_ne_arr {W : World} {z : List UInt8} {ad : Addr} {c b : Nat} {T : TypeId} {xs : List Value} (hr : RowIs W (some ad) (bytesV z) c) (h0 : 0 < z.length) (hA : Arr W b T xs) (hx : ∀ v ∈ xs, ∃ o l c, v = .slice o l c) : ad.block ≠ b := fun e => by
  obtain ⟨b', off, e2, _, hc⟩ := hr.cells (by rw [bytesV_length]; exact h0)
  obtain rfl := Option.some.inj e2
  have h1 := hc 0 _ (bytesV_get z 0 h0)
  subst e
  rw [hA.cell] at h1
  obtain ⟨o, l, c', h2⟩ := hx _ (List.mem_of_getElem? h1)
  cases h2
theorem RowV.putArr {W W' : World} {z : List UInt8} {x : Value} {b : Nat} {T : TypeId} {xs : List Value} (hr : RowV z x W) (hA : Arr W b T xs) (hx : ∀ v ∈ xs, ∃ o l c, v = .slice o l c) (hg : W.grownBy W' (some b)) : RowV z x W' := by
  obtain ⟨o, c, rfl, hr⟩ := hr
  refine ⟨o, c, rfl, hr.kept hg fun h0 ad e => ?_⟩
  subst e
  rw [bytesV_length] at h0
  exact fun e => row_ne_arr hr h0 hA hx (Option.some.inj e)
theorem Els.putArr {W W' : World} {bs : List (List UInt8)} {ys : List Value} {b : Nat} {T : TypeId} {xs : List Value} (h : Els W bs ys) (hA : Arr W b T xs) (hx : ∀ v ∈ xs, ∃ o l c, v = .slice o l c) (hg : W.grownBy W' (some b)) : Els W' bs ys :=
  ⟨h.len, fun i x hi => (h.at_ i x hi).putArr hA hx hg⟩
theorem Els.set {W : World} {bs : List (List UInt8)} {xs : List Value} (h : Els W bs xs) (i : Nat) {b : List UInt8} {v : Value} (hv : RowV b v W) : Els W (bs.set i b) (xs.set i v) := by
  refine ⟨by simp [h.len], fun j x hx => ?_⟩
  have hl := h.len
  have hj : j < xs.length := by have := (List.getElem?_eq_some_iff.1 hx).1; simpa using this
  rw [List.getElem?_set] at hx
  by_cases e : i = j
  · subst e
    rw [if_pos rfl, if_pos hj] at hx
    obtain rfl := Option.some.inj hx
    have : bi (bs.set i b) i = b := by simp [bi, List.getD, show i < bs.length by omega]
    rw [this]; exact hv
  · rw [if_neg e] at hx
    have : bi (bs.set i b) j = bi bs j := by simp [bi, List.getD, List.getElem?_set_ne e]
    rw [this]; exact h.at_ j x hx
theorem Els.slices {W : World} {bs : List (List UInt8)} {xs : List Value} (h : Els W bs xs) : ∀ v ∈ xs, ∃ o l c, v = .slice o l c := fun v hv => by
  obtain ⟨i, hi, rfl⟩ := List.mem_iff_getElem.1 hv
  obtain ⟨o, c, e, _⟩ := h.at_ i _ (List.getElem?_eq_getElem hi)
  exact ⟨o, _, c, e⟩
theorem nil5_slices : ∀ v ∈ nil5, ∃ o l c, v = .slice o l c := fun v hv => by
  simp only [nil5, List.mem_cons, List.not_mem_nil, or_false, or_self] at hv
  exact ⟨none, 0, 0, hv⟩
def Ra9 (B : Nat) (ks : List (List UInt8)) (g : Nat) (w : World) (i : Value) (wr : World) : Prop :=
  ∃ (q : Nat) (xs : List Value), q ≤ 5 ∧ i = .int .i64 q ∧ (B ≠ 0 → q = 0) ∧ Arr wr (g + 1) 39 xs ∧ Els wr (Da.pk ks q) xs ∧ Arr wr (g + 2) 9 lbV ∧ Arr wr g 39 nil5 ∧ Below w.heap.size w wr
set_option maxRecDepth 100000 in
set_option maxHeartbeats 1000000 in
theorem rall9_of (Z : Array Value) (hZ : Z = nil5.toArray) (hzs : ∀ w, Sem.run Tryd.prog (zeroValue 39) w = .ok (.agg Z) w) (hbu : Tryd.prog.built 39 [] = some Z)
    (k : List UInt8) (o : Option Addr) (c : Nat) (n : Int) (w : World) (hK : RowIs w o (bytesV k) c) (hV : Rds w) (hkl : k.length ≤ 90000) :
    Calls Tryd.prog 16 #[.slice o k.length c, .int .i64 n] w fun e w' => ∃ xs : List Value, e = .returned (.tuple #[.agg xs.toArray, .int .i64 ((Da.abad (Da.isMas k.length) (Da.inR n) : Nat) : Int)]) ∧
      Els w' (Da.ares (Da.abad (Da.isMas k.length) (Da.inR n)) (Da.keysL k n)) xs ∧ Below w.heap.size w w' := by
  obtain ⟨g, hg⟩ : ∃ g, w.heap.size = g := ⟨_, rfl⟩
  obtain ⟨W1, hW1⟩ : ∃ W1, w.alloc (Obj.cells Z 39) = W1 := ⟨_, rfl⟩
  obtain ⟨W2, hW2⟩ : ∃ W2, W1.alloc (Obj.cells Z 39) = W2 := ⟨_, rfl⟩
  obtain ⟨W3, hW3⟩ : ∃ W3, W2.setRow (g + 1) Z = W3 := ⟨_, rfl⟩
  obtain ⟨W4, hW4⟩ : ∃ W4, W3.alloc (Obj.cells #[.string ⟨#[109, 97, 115, 107]⟩, .string ⟨#[112, 108, 97, 99, 101]⟩, .string ⟨#[115, 101, 110, 116, 105, 110, 101, 108]⟩, .string ⟨#[116, 97, 103]⟩, .string ⟨#[115, 112, 111, 116]⟩] 9) = W4 := ⟨_, rfl⟩
  have hs1 : W1.heap.size = g + 1 := by rw [← hW1, World.size_alloc, hg]
  have hs2 : W2.heap.size = g + 2 := by rw [← hW2, World.size_alloc, hs1]
  have hs3 : W3.heap.size = g + 2 := by rw [← hW3]; simpa using hs2
  have hA1 : Arr W1 g 39 nil5 := by rw [← hW1, ← hg, hZ]; exact Arr.made _ _ _
  have hA2 : Arr W2 (g + 1) 39 nil5 := by rw [← hW2, ← hs1, hZ]; exact Arr.made _ _ _
  have hA2z : W2.heap[g + 1]? = some (.cells Z 39 (0, 0)) := by rw [hZ]; exact hA2
  have hA3 : Arr W3 (g + 1) 39 nil5 := by rw [← hW3]; unfold Arr; rw [hZ]; exact setRow_heap _ _ _ _ _ _ hA2
  have hG3 : Arr W3 g 39 nil5 := by rw [← hW3]; unfold Arr; rw [setRow_other _ _ _ _ (by omega), ← hW2]; exact hA1.alloc _
  have hb3 : Below w.heap.size w W3 := by
    rw [← hW3, ← hW2, ← hW1]; exact (((Below.refl _ _).alloc (Nat.le_refl _) _).alloc (by rw [World.size_alloc]; omega) _).trans (below_row (by omega))
  have hb4 : Below W3.heap.size W3 W4 := by rw [← hW4]; exact (Below.refl _ _).alloc (Nat.le_refl _) _
  have hS4 : Arr W4 (g + 2) 9 lbV := by rw [← hW4, ← hs3]; exact Arr.made _ _ _
  obtain ⟨B, hB⟩ : ∃ B, Da.abad (Da.isMas k.length) (Da.inR n) = B := ⟨_, rfl⟩
  obtain ⟨ks, hks⟩ : ∃ ks, Da.keysL k n = ks := ⟨_, rfl⟩
  have HX0 : Hid (Ra9 B ks g w (.int .i64 0) W4) := Lib.hid ⟨0, nil5, by omega, rfl, fun _ => rfl, hA3.later hb4 hA3.lt, by rw [Da.pk_zero]; exact els_nil5 _, hS4, hG3.later hb4 hG3.lt, Kit.step hb3 hb4⟩
  have RK : Hid (∀ (q : Nat) (v : World), q < 5 → Below w.heap.size w v → Calls Tryd.prog 8 #[.slice o k.length c, .string (Da.lb q), .int .i64 n] v fun e w' => ∃ x, e = .returned (.tuple #[x, .int .i64 (B : Int)]) ∧ RowV (Da.kres B (bi ks q)) x w' ∧ Below v.heap.size v w') := Lib.hid fun q v hq hv => by
    have := rkey9_any k o c (Da.lb q) n v (hK.later hv) (hV.later hv) hkl (Da.lb_small q hq)
    rw [Da.lb_lab q hq, Da.kbad_abad, hB, Da.lb_key k n q hq, hks] at this
    exact this
  have HEND : Hid (B = 0 → Da.pk ks 5 = Da.ares B ks) := Lib.hid fun h => by rw [h, ← hks]; rfl
  have HBAD : Hid (B ≠ 0 → Da.ares B ks = [[], [], [], [], []]) := Lib.hid fun h => by unfold Da.ares; rw [if_neg h]
  have HBI : Hid (B ≤ 9) := Lib.hid (by rw [← hB]; unfold Da.abad; split <;> (try split) <;> omega)
  have HZS : Hid ((Tryd.prog.info? 39).map (·.size) = some Z.size) := Lib.hid (by rw [k5_info, hZ]; rfl)
  have HZO : Hid (Z.all (·.oneCell') = true) := Lib.hid (by rw [hZ]; exact all_oneCell_toArray (fun v hv => by obtain ⟨a, b, c, rfl⟩ := nil5_slices v hv; rfl))
  have HA2 := Lib.hid hA2z
  have HBU := Lib.hid hbu
  have HZ := Lib.hid hZ
  have HG := Lib.hid hg
  have HS1 := Lib.hid hs1
  have HW1 := Lib.hid hW1
  have HW2 := Lib.hid hW2
  have HW3 := Lib.hid hW3
  have HW4 := Lib.hid hW4
  have HS3 := Lib.hid hs3
  rw [hB, hks]
  clear hg hs1 hs2 hs3 hW1 hW2 hW3 hW4 hA1 hA2 hA2z hA3 hG3 hb3 hb4 hS4 hB hks hZ hK hV hbu
  go_enter Tryd.func16, Tryd.ntmps16
  go_upto_region 1 with (first | rw [HW1.out, HG.out])
  apply wp_region_lit
  refine wpList_built rfl 39 _ rfl [] (by simp) Z HBU.out ?_
  (refine wpList_plain rfl (fun K hK => ?_); go_simp; refine hK _ _ ?_; clear hK K)
  rw [HW2.out, HS1.out]
  refine wpList_store_rowTo rfl 39 (.tmp 6) (.tmp 11) rfl rfl (g + 1) Z rfl rfl 39 Z HA2.out HZS.out rfl HZO.out ?_
  rw [HW3.out]
  go_wp2_with (first | rw [HW4.out, HS3.out])
  go_loopw [14] (fun i wr => Ra9 B ks g w i wr) (fun i _ => 5 - (intOf i).toNat)
  case atStart => exact HX0.out
  case round =>
    rename World => V
    obtain ⟨q, xs, hq, rfl, hBq, hA, hE, hS, hN, hb⟩ := hrel
    by_cases hlt : q < 5
    · have hd1 : decide ((q : Int) < 5) = true := by simp; omega
      have hcs : V.cell? ⟨g + 2, q, none⟩ = some (.string (Da.lb q)) := by rw [hS.cell]; exact lbV_at q hlt
      have RKq := Lib.hid (RK.out q V hlt hb)
      obtain ⟨s, hs⟩ : ∃ s, Da.lb q = s := ⟨_, rfl⟩
      rw [hs] at hcs RKq
      have HA := Lib.hid hA
      have HE := Lib.hid hE
      have HS := Lib.hid hS
      have HN := Lib.hid hN
      have HB := Lib.hid hb
      have HBQ := Lib.hid hBq
      clear hA hE hS hN hb hs hBq
      go_wp2_with fail
      refine RKq.out.mono ?_
      rintro e V2 ⟨x, rfl, hx, hb2⟩
      have HX := Lib.hid hx
      have HB2 := Lib.hid (Kit.step HB.out hb2)
      have HA2 := Lib.hid (HA.out.later hb2 HA.out.lt)
      have HE2 := Lib.hid (HE.out.later hb2)
      have HS2 := Lib.hid (HS.out.later hb2 HS.out.lt)
      have HN2 := Lib.hid (HN.out.later hb2 HN.out.lt)
      clear hx hb2 HA HE HS HN RKq
      by_cases hB0 : B = 0
      · have hn2 : ((B : Int) == 0) = true := by rw [hB0]; rfl
        have hn3 : ((B : Int) != 0) = false := by rw [hB0]; rfl
        have hcx : ∃ y, V2.cell? ⟨g + 1, q, none⟩ = some y := by
          have : q < xs.length := by rw [HE2.out.len, Da.pk_length]; exact hlt
          exact ⟨_, by rw [HA2.out.cell]; exact List.getElem?_eq_getElem this⟩
        obtain ⟨y, hcy⟩ := hcx
        have hfz := HA2.out.frozen q
        have hxr := HX.out
        rw [show Da.kres B (bi ks q) = bi ks q from by unfold Da.kres; rw [if_pos hB0]] at hxr
        have hg1 : V2.grownBy (V2.setCell ⟨g + 1, q, none⟩ x) (some (g + 1)) := grown_set HA2.out q x
        have hsl := HE2.out.slices
        have HR : Hid (Ra9 B ks g w (.int .i64 ((q : Int) + 1)) (V2.setCell ⟨g + 1, q, none⟩ x)) := Lib.hid ⟨q + 1, xs.set q x, by omega, by go_num, fun h => absurd hB0 h, HA2.out.set q x, by
          rw [← Da.pk_step ks q hlt]
          exact (HE2.out.putArr HA2.out hsl hg1).set q (hxr.putArr HA2.out hsl hg1), HS2.out.kept hg1 (by simp), HN2.out.kept hg1 (by simp), HA2.out.below HB2.out (by have := HG.out; omega) _ _⟩
        obtain ⟨ox, cx, rfl, _⟩ := hxr
        clear hsl hg1 HX
        go_wp2_with fail
        exact ⟨HR.out, by simp [intOf]; omega⟩
      · have hn1 : ¬ (B : Int) = 0 := by omega
        have hn2 : ((B : Int) == 0) = false := beq_false_of_ne hn1
        have hn3 : ((B : Int) != 0) = true := by rw [bne_iff_ne]; exact hn1
        have HNZ : Hid (V2.heap[g]? = some (.cells Z 39 (0, 0))) := Lib.hid (by rw [HZ.out]; exact HN2.out)
        have HY : Hid ((V2.setRow g Z).heap[g]? = some (.cells Z 39 (0, 0))) := Lib.hid (setRow_heap _ _ _ _ _ _ HNZ.out)
        have HBY : Hid (Below w.heap.size w (V2.setRow g Z)) := Lib.hid (HB2.out.trans (below_row (Nat.le_of_eq HG.out)))
        obtain ⟨ox, cx, rfl, _⟩ := HX.out
        go_upto_region 7 with fail
        apply wp_region_lit
        refine wpList_built rfl 39 _ rfl [] (by simp) Z HBU.out ?_
        (refine wpList_plain rfl (fun K hK => ?_); go_simp; refine hK _ _ ?_; clear hK K)
        refine wpList_store_rowTo rfl 39 (.tmp 4) (.tmp 28) rfl rfl g Z rfl rfl 39 Z HNZ.out HZS.out rfl HZO.out ?_
        go_wp2_with fail
        refine bodyPost_ret (res_ct rfl _ _ g 39 Z (0, 0) _ rfl HY.out k5_under rfl HZS.out) rfl ?_
        exact ⟨nil5, by rw [HZ.out]; rfl, by rw [HBAD.out hB0]; exact els_nil5 _, HBY.out⟩
    · obtain rfl : q = 5 := by omega
      have hB0 : B = 0 := by
        by_cases h : B = 0
        · exact h
        · exact absurd (hBq h) (by decide)
      rw [show (((5 : Nat) : Int)) = 5 from rfl]
      obtain ⟨F, hF⟩ : ∃ F : Array Value, xs.toArray = F := ⟨_, rfl⟩
      have hxl : xs.length = 5 := hE.len.trans (Da.pk_length _ _)
      have HFS : Hid ((Tryd.prog.info? 39).map (·.size) = some F.size) := Lib.hid (by rw [k5_info, ← hF]; simp [hxl])
      have HFZ : Hid (Z.size = F.size) := Lib.hid (by rw [HZ.out, ← hF]; simp [hxl]; rfl)
      have HFO : Hid (F.all (·.oneCell') = true) := Lib.hid (by rw [← hF]; exact all_oneCell_toArray hE.ones)
      have HL : Hid (V.heap[g + 1]? = some (.cells F 39 (0, 0))) := Lib.hid (by rw [← hF]; exact hA)
      have HNZ : Hid (V.heap[g]? = some (.cells Z 39 (0, 0))) := Lib.hid (by rw [HZ.out]; exact hN)
      have HY : Hid ((V.setRow g F).heap[g]? = some (.cells F 39 (0, 0))) := Lib.hid (setRow_heap _ _ _ _ _ _ HNZ.out)
      have HBY : Hid (Below w.heap.size w (V.setRow g F)) := Lib.hid (hb.trans (below_row (Nat.le_of_eq HG.out)))
      have HEY : Hid (Els (V.setRow g F) (Da.ares B ks) xs) := Lib.hid (by
        rw [← HEND.out hB0]
        exact hE.putArr hN nil5_slices (grown_row _))
      have HF := Lib.hid hF
      subst hB0
      clear hA hE hS hN hb hF hxl
      go_upto_region 10 with fail
      apply wp_region_lit
      refine wpList_load_row rfl 39 (.tmp 6) rfl (g + 1) rfl 39 F (0, 0) _ HL.out k5_under rfl HFS.out ?_
      refine wpList_store_rowTo rfl 39 (.tmp 4) (.tmp 34) rfl rfl g F rfl rfl 39 Z HNZ.out HFS.out HFZ.out HFO.out ?_
      go_wp2_with fail
      refine bodyPost_ret (res_ct rfl _ _ g 39 F (0, 0) _ rfl HY.out k5_under rfl HFS.out) rfl ?_
      exact ⟨xs, by rw [HF.out]; rfl, HEY.out, HBY.out⟩
theorem rall9_any (k : List UInt8) (o : Option Addr) (c : Nat) (n : Int) (w : World) (hK : RowIs w o (bytesV k) c) (hV : Rds w) (hkl : k.length ≤ 90000) :
    Calls Tryd.prog 16 #[.slice o k.length c, .int .i64 n] w fun e w' => ∃ xs : List Value, e = .returned (.tuple #[.agg xs.toArray, .int .i64 ((Da.abad (Da.isMas k.length) (Da.inR n) : Nat) : Int)]) ∧
      Els w' (Da.ares (Da.abad (Da.isMas k.length) (Da.inR n)) (Da.keysL k n)) xs ∧ Below w.heap.size w w' :=
  rall9_of _ rfl k5_zero k5_built0 k o c n w hK hV hkl
end Go.Proofs.YtemngcifeglpmaaDoor
