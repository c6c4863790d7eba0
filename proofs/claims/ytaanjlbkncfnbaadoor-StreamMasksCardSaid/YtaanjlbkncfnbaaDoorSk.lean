/- A key's stream: a block xor another one, laid into a row; the first error of a list of blocks. -/
import Derived.Test.YtaanjlbkncfnbaaDoorSn
namespace Go.Proofs.YtaanjlbkncfnbaaDoor.Da
/-- one block xor another one -/
def xr (a b : List UInt8) : List UInt8 := List.zipWith (· ^^^ ·) a b
/-- a list, with x from place o on -/
def putL (Z : List UInt8) (o : Nat) (x : List UInt8) : List UInt8 := Z.take o ++ x ++ Z.drop (o + x.length)
theorem xr_length (a b : List UInt8) : (xr a b).length = min a.length b.length := by simp [xr]
theorem xr_at (a b : List UInt8) (j : Nat) (ha : j < a.length) (hb : j < b.length) : (xr a b).getD j 0 = a.getD j 0 ^^^ b.getD j 0 := by
  have hx : j < (xr a b).length := by rw [xr_length]; omega
  simp [xr, List.getElem?_zipWith, ha, hb]
theorem xr_twice (a b : List UInt8) (h : a.length ≤ b.length) : xr (xr a b) b = a := by
  apply List.ext_getElem
  · simp [xr]; omega
  · intro i h1 h2
    simp [xr, UInt8.xor_assoc]
theorem putL_nil (Z : List UInt8) (o : Nat) : putL Z o [] = Z := by simp [putL]
theorem putL_length (Z : List UInt8) (o : Nat) (x : List UInt8) (h : o + x.length ≤ Z.length) : (putL Z o x).length = Z.length := by simp [putL]; omega
theorem putL_step (Z : List UInt8) (o : Nat) (x : List UInt8) (j : Nat) (hj : j < x.length) (h : o + x.length ≤ Z.length) : (putL Z o (x.take j)).set (o + j) (x.getD j 0) = putL Z o (x.take (j + 1)) := by
  apply List.ext_getElem
  · rw [List.length_set, putL_length _ _ _ (by simp; omega), putL_length _ _ _ (by simp; omega)]
  · intro i h1 h2
    rw [List.getElem_set]
    simp only [putL, List.length_take, List.append_assoc]
    by_cases e : o + j = i
    · subst e
      have m1 : min o Z.length = o := by omega
      have m3 : min (j + 1) x.length = j + 1 := by omega
      simp only [List.getElem_append, List.length_take, List.getElem_take, List.getElem_drop, m1, m3, show ¬ o + j < o by omega, show o + j - o < j + 1 by omega, dif_pos, dif_neg, not_false_eq_true]
      simp [hj]
    · rw [if_neg e]
      simp only [List.getElem_append, List.length_take, List.getElem_take, List.getElem_drop]
      have m1 : min o Z.length = o := by omega
      have m2 : min j x.length = j := by omega
      have m3 : min (j + 1) x.length = j + 1 := by omega
      simp only [m1, m2, m3]
      by_cases c1 : i < o
      · simp [c1]
      · by_cases c2 : i - o < j
        · simp [c1, c2, show i - o < j + 1 by omega]
        · simp only [c1, c2, show ¬ i - o < j + 1 by omega, dif_neg, not_false_eq_true]
          congr 1
          omega
end Go.Proofs.YtaanjlbkncfnbaaDoor.Da
namespace Go.Proofs.YtaanjlbkncfnbaaDoor
open Go.RowKit
set_option linter.unusedVariables false
set_option linter.unusedSimpArgs false
theorem grown_trans {w1 w2 w3 : World} {r : Option Nat} (h1 : w1.grownBy w2 r) (h2 : w2.grownBy w3 r) : w1.grownBy w3 r :=
  ⟨h2.os.trans h1.os, h2.tape.trans h1.tape, h2.output.trans h1.output, Nat.le_trans h1.size h2.size, fun k hk hr => (h2.block k (Nat.lt_of_lt_of_le hk h1.size) hr).trans (h1.block k hk hr)⟩
def Ly10At (Z x : List UInt8) (g o : Nat) (w : World) (i : Value) (wr : World) : Prop :=
  ∃ j : Nat, j ≤ 8 ∧ i = .int .i64 j ∧ Arr wr g 5 (bytesV (Da.putL Z o (x.take j))) ∧ w.grownBy wr (some g)
set_option maxRecDepth 100000 in
theorem lay10_any (Z a b : List UInt8) (g o : Nat) (oa ob : Option Addr) (ca cb : Nat) (w : World) (hZ : o + 8 ≤ Z.length) (hZm : Z.length ≤ 1000000) (hA : Arr w g 5 (bytesV Z)) (ha : RowIs w oa (bytesV a) ca) (hb : RowIs w ob (bytesV b) cb) (hal : a.length = 8) (hbl : b.length = 8)
    (hna : ∀ ad, oa = some ad → ad.block ≠ g) (hnb : ∀ ad, ob = some ad → ad.block ≠ g) :
    Calls Tryd.prog 27 #[.slice (some ⟨g, o, none⟩) 8 8, .slice oa 8 ca, .slice ob 8 cb] w fun e w' => e = .returned (.tuple #[]) ∧ Arr w' g 5 (bytesV (Da.putL Z o (Da.xr a b))) ∧ w.grownBy w' (some g) := by
  have hx8 : (Da.xr a b).length = 8 := by rw [Da.xr_length, hal, hbl]; rfl
  have HX0 : Hid (Ly10At Z (Da.xr a b) g o w (.int .i64 0) w) := Lib.hid ⟨0, by omega, rfl, by rw [List.take_zero, Da.putL_nil]; exact hA, World.grownBy.refl _ _⟩
  have HXE : Hid (Da.xr a b = (Da.xr a b).take 8) := Lib.hid (List.take_of_length_le (by omega)).symm
  have HA := Lib.hid ha
  have HB := Lib.hid hb
  have HNA := Lib.hid hna
  have HNB := Lib.hid hnb
  clear hA ha hb hna hnb
  go_enter Tryd.func27, Tryd.ntmps27
  go_wp2_with fail
  go_loopw [9] (fun i wr => Ly10At Z (Da.xr a b) g o w i wr) (fun i _ => 8 - (intOf i).toNat)
  case atStart => exact HX0.out
  case round =>
    obtain ⟨j, hj, rfl, hG, hgr⟩ := hrel
    by_cases hlt : j < 8
    · obtain ⟨x, hx⟩ : ∃ x, a.getD j 0 = x := ⟨_, rfl⟩
      obtain ⟨y, hy⟩ : ∃ y, b.getD j 0 = y := ⟨_, rfl⟩
      obtain ⟨ba, oa, rfl, _, hca0⟩ := (HA.out.kept hgr (fun _ ad e h => HNA.out ad e (by cases h; rfl))).cells (by simp [hal])
      obtain ⟨bb, ob, rfl, _, hcb0⟩ := (HB.out.kept hgr (fun _ ad e h => HNB.out ad e (by cases h; rfl))).cells (by simp [hbl])
      have hca := hca0 j _ (bytesV_get a j (by omega))
      have hcb := hcb0 j _ (bytesV_get b j (by omega))
      have hcg : wr.cell? ⟨g, o + j, none⟩ = some (.int .u8 (((Da.putL Z o ((Da.xr a b).take j)).getD (o + j) 0).toNat : Int)) := by rw [hG.cell]; exact bytesV_get _ _ (by rw [Da.putL_length _ _ _ (by simp; omega)]; omega)
      have hfz := hG.frozen (o + j)
      have HX : Hid (bits .xor .u8 (x.toNat : Int) (y.toNat : Int) = ((x ^^^ y).toNat : Int)) := Lib.hid (by
        rw [u8_xor_nat _ _ (UInt8.toNat_lt _) (UInt8.toNat_lt _), UInt8.toNat_xor])
      have HST : Hid ((Da.putL Z o ((Da.xr a b).take j)).set (o + j) (x ^^^ y) = Da.putL Z o ((Da.xr a b).take (j + 1))) := Lib.hid (by
        rw [← Da.putL_step Z o _ j (by omega) (by omega), Da.xr_at a b j (by omega) (by omega), hx, hy])
      rw [hx] at hca
      rw [hy] at hcb
      obtain ⟨V, hV⟩ : ∃ V, Da.putL Z o ((Da.xr a b).take j) = V := ⟨_, rfl⟩
      rw [hV] at hG hcg HST
      have HG := Lib.hid hG
      have HGR := Lib.hid hgr
      clear hG hgr hx hy hV HX0 hca0 hcb0
      go_wp2_with fail
      go_region
      go_wp2_with fail
      refine ⟨⟨j + 1, by omega, rfl, ?_, ?_⟩, by simp [intOf]; omega⟩
      · rw [← HST.out, ← bytesV_set', HX.out]
        exact (HG.out.set (o + j) _).drew
      · have hgs := grown_set HG.out (o + j) (.int .u8 (bits .xor .u8 (x.toNat : Int) (y.toNat : Int)))
        exact grown_trans HGR.out ⟨hgs.os, hgs.tape, hgs.output, hgs.size, hgs.block⟩
    · obtain rfl : j = 8 := by omega
      have HG := Lib.hid hG
      have HGR := Lib.hid hgr
      clear hG hgr HX0
      go_wp2_with fail
      refine bodyPost_end (results_none rfl _ _ _) rfl ?_
      exact ⟨rfl, by rw [HXE.out]; exact HG.out, HGR.out⟩
end Go.Proofs.YtaanjlbkncfnbaaDoor
namespace Go.Proofs.YtaanjlbkncfnbaaDoor.Da
/-- the first error of a list of blocks -/
def mbs (n : Int) : List (List UInt8) → Nat
  | [] => 0
  | b :: t => if mb b n = 0 then mbs (n + 1) t else mb b n
/-- a block masked -/
def mk8 (k : List UInt8) (n : Int) (b : List UInt8) : List UInt8 := xr b (sb k n)
/-- blocks masked -/
def mkL (k : List UInt8) (n : Int) : List (List UInt8) → List (List UInt8)
  | [] => []
  | b :: t => mk8 k n b :: mkL k (n + 1) t
theorem mbs_le (n : Int) (l : List (List UInt8)) : mbs n l ≤ 20 := by
  induction l generalizing n with
  | nil => simp [mbs]
  | cons b t ih => unfold mbs; split <;> first | exact ih _ | exact mb_le b n
theorem mkL_length (k : List UInt8) (n : Int) (l : List (List UInt8)) : (mkL k n l).length = l.length := by
  induction l generalizing n with
  | nil => rfl
  | cons b t ih => simp [mkL, ih]
theorem mk8_length {k : List UInt8} {n : Int} {b : List UInt8} (h : b.length = 8) : (mk8 k n b).length = 8 := by rw [mk8, xr_length, sb_length, h]; rfl
theorem mk8_twice (k : List UInt8) (n : Int) (b : List UInt8) (h : b.length = 8) : mk8 k n (mk8 k n b) = b := xr_twice b (sb k n) (by rw [sb_length]; omega)
theorem mbs_mkL (k : List UInt8) (n : Int) (l : List (List UInt8)) (h : mbs n l = 0) : mbs n (mkL k n l) = 0 ∧ mkL k n (mkL k n l) = l := by
  induction l generalizing n with
  | nil => exact ⟨rfl, rfl⟩
  | cons b t ih =>
    unfold mbs at h
    split at h
    · rename_i hb
      obtain ⟨h8, hr⟩ := mb_zero hb
      obtain ⟨i1, i2⟩ := ih _ h
      constructor
      · rw [mkL, mbs, if_pos (by unfold mb; rw [if_pos (mk8_length h8)]; exact hr)]
        exact i1
      · rw [mkL, mkL, mk8_twice k n b h8, i2]
    · rename_i hb
      exact absurd h hb
theorem bi_at (l : List (List UInt8)) (p : Nat) (hp : p < l.length) : bi l p = l[p] := by simp [bi, hp]
theorem mbs_drop (n : Int) (l : List (List UInt8)) (p : Nat) (hp : p < l.length) : mbs (n + p) (l.drop p) = if mb (bi l p) (n + p) = 0 then mbs (n + (p + 1 : Nat)) (l.drop (p + 1)) else mb (bi l p) (n + p) := by
  rw [List.drop_eq_getElem_cons hp, mbs, ← bi_at l p hp, show n + (p : Int) + 1 = n + ((p + 1 : Nat) : Int) by omega]
theorem mbs_all (n : Int) (l : List (List UInt8)) (h : mbs n l = 0) (p : Nat) (hp : p < l.length) : mb (bi l p) (n + p) = 0 := by
  induction l generalizing n p with
  | nil => simp at hp
  | cons b t ih =>
    unfold mbs at h
    split at h
    · rename_i hb
      cases p with
      | zero => simpa [bi] using hb
      | succ p =>
        have := ih (n + 1) h p (by simpa using hp)
        rw [show n + 1 + (p : Int) = n + ((p + 1 : Nat) : Int) by omega] at this
        simpa [bi] using this
    · rename_i hb
      exact absurd h hb
theorem mkL_at (k : List UInt8) (n : Int) (l : List (List UInt8)) (p : Nat) (hp : p < l.length) : bi (mkL k n l) p = mk8 k (n + p) (bi l p) := by
  induction l generalizing n p with
  | nil => simp at hp
  | cons b t ih =>
    cases p with
    | zero => simp [bi, mkL]
    | succ p =>
      have := ih (n + 1) p (by simpa using hp)
      rw [show n + 1 + (p : Int) = n + ((p + 1 : Nat) : Int) by omega] at this
      simpa [bi, mkL] using this
theorem mkL_take (k : List UInt8) (n : Int) (l : List (List UInt8)) (p : Nat) (hp : p < l.length) : mkL k n (l.take (p + 1)) = mkL k n (l.take p) ++ [mk8 k (n + p) (bi l p)] := by
  induction l generalizing n p with
  | nil => simp at hp
  | cons b t ih =>
    cases p with
    | zero => simp [bi, mkL]
    | succ p =>
      have := ih (n + 1) p (by simpa using hp)
      rw [show n + 1 + (p : Int) = n + ((p + 1 : Nat) : Int) by omega] at this
      simpa [bi, mkL] using this
end Go.Proofs.YtaanjlbkncfnbaaDoor.Da
namespace Go.Proofs.YtaanjlbkncfnbaaDoor.Da
theorem putL_at (Z : List UInt8) (o : Nat) (x : List UInt8) (h : o + x.length ≤ Z.length) : ((putL Z o x).drop o).take x.length = x := by
  unfold putL
  rw [List.append_assoc, List.drop_append_of_le_length (by simp; omega), List.drop_of_length_le (by simp; omega), List.nil_append, List.take_left]
theorem putL_ahead (Z : List UInt8) (o : Nat) (x : List UInt8) (i m : Nat) (h : o + x.length ≤ Z.length) (hi : i + m ≤ o) : ((putL Z o x).drop i).take m = (Z.drop i).take m := by
  unfold putL
  rw [List.append_assoc, List.drop_append_of_le_length (by simp; omega), List.take_append_of_le_length (by simp; omega), List.drop_take, List.take_take, Nat.min_eq_left (by omega)]
end Go.Proofs.YtaanjlbkncfnbaaDoor.Da
namespace Go.Proofs.YtaanjlbkncfnbaaDoor
open Go.RowKit
/-- blocks of values of other types are apart -/
theorem arr_apart {W : World} {a b : Nat} {T U : TypeId} {xs ys : List Value} (h : Arr W a T xs) (k : Arr W b U ys) (hn : T ≠ U) : a ≠ b := fun e => by
  subst e
  have := h.symm.trans k
  cases this
  exact hn rfl
theorem arr_setRow {W : World} {a b : Nat} {T : TypeId} {xs : List Value} (h : Arr W a T xs) (hn : a ≠ b) (C : Array Value) : Arr (W.setRow b C) a T xs := by
  unfold Arr
  rw [setRow_other _ _ _ _ hn]
  exact h
theorem made_rows (n : Nat) : (madeCells (Value.slice none 0 0).cells (n * 1)).toList = List.replicate n (.slice none 0 0) := by
  rw [Nat.mul_one]
  exact toList_madeCells_one _ _
/-- headers of a row whose blocks lie behind one another, the first p of them -/
def hdrs (g N p : Nat) : List Value := (List.range N).map fun i => if i < p then .slice (some ⟨g, 8 * i, none⟩) 8 8 else .slice none 0 0
theorem hdrs_length (g N p : Nat) : (hdrs g N p).length = N := by simp [hdrs]
theorem hdrs_zero (g N : Nat) : hdrs g N 0 = List.replicate N (.slice none 0 0) := by
  apply List.ext_getElem
  · simp [hdrs]
  · intro i h1 h2
    simp [hdrs]
theorem hdrs_at (g N p i : Nat) (hi : i < N) : (hdrs g N p)[i]? = some (if i < p then .slice (some ⟨g, 8 * i, none⟩) 8 8 else .slice none 0 0) := by simp [hdrs, hi]
theorem hdrs_step (g N p : Nat) : (hdrs g N p).set p (.slice (some ⟨g, 8 * p, none⟩) 8 8) = hdrs g N (p + 1) := by
  apply List.ext_getElem
  · simp [hdrs]
  · intro i h1 h2
    rw [List.getElem_set]
    by_cases e : p = i
    · subst e
      simp [hdrs]
    · rw [if_neg e]
      simp only [hdrs, List.getElem_map, List.getElem_range]
      by_cases c : i < p
      · rw [if_pos c, if_pos (by omega)]
      · rw [if_neg c, if_neg (by omega)]
end Go.Proofs.YtaanjlbkncfnbaaDoor
