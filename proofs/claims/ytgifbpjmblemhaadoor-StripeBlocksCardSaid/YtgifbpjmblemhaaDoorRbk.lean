/- The document's Blocks: all blocks of a file. -/
import Derived.Test.YtgifbpjmblemhaaDoorRpb
import Derived.Test.YtgifbpjmblemhaaDoorOf
namespace Go.Proofs.YtgifbpjmblemhaaDoor
open Go.RowKit
set_option linter.unusedVariables false
set_option linter.unusedSimpArgs false
/-- a block of eight slices -/
def ArrB (W : World) (R : Nat) (f : Nat → Value) : Prop := W.heap[R]? = some (.cells ((List.range 8).map f).toArray 58 (0, 0))
theorem ArrB.cell {W : World} {R : Nat} {f : Nat → Value} (h : ArrB W R f) (i : Nat) (hi : i < 8) : W.cell? ⟨R, i, none⟩ = some (f i) := by
  rw [cell_of_row _ _ i _ _ _ h]
  simp [hi]
theorem ArrB.frozen {W : World} {R : Nat} {f : Nat → Value} (h : ArrB W R f) (i : Nat) : W.frozen? ⟨R, i, none⟩ = false := by
  unfold World.frozen?; rw [show W.heap[R]? = _ from h]; rfl
theorem ArrB.lt {W : World} {R : Nat} {f : Nat → Value} (h : ArrB W R f) : R < W.heap.size := (Array.getElem?_eq_some_iff.1 h).1
theorem ArrB.later {W W' : World} {R : Nat} {f : Nat → Value} (h : ArrB W R f) (hb : Below W.heap.size W W') : ArrB W' R f := by
  unfold ArrB at *
  rw [hb.block R (Array.getElem?_eq_some_iff.1 h).1]; exact h
theorem ArrB.grown {W W' : World} {R : Nat} {f : Nat → Value} {r : Option Nat} (h : ArrB W R f) (hg : W.grownBy W' r) (hne : r ≠ some R) : ArrB W' R f := by
  unfold ArrB at *
  rw [hg.block R (Array.getElem?_eq_some_iff.1 h).1 (fun e => hne e.symm)]; exact h
theorem ArrB.store {W : World} {R : Nat} {f : Nat → Value} (h : ArrB W R f) (i : Nat) (v : Value) : ArrB (W.setCell ⟨R, i, none⟩ v) R (fun j => if j = i then v else f j) ∧ Only R W (W.setCell ⟨R, i, none⟩ v) := by
  have e1 := setCell_eq_setRow W R i _ _ _ v h
  have h1 := setRow_heap W R _ (((List.range 8).map f).toArray.setIfInBounds i v) _ _ h
  rw [← e1] at h1
  refine ⟨?_, ?_⟩
  · unfold ArrB
    rw [h1]
    congr 2
    apply Array.ext_getElem?
    intro k
    rw [Array.getElem?_setIfInBounds]
    by_cases hk : i = k
    · subst hk
      by_cases hn : i < 8
      · simp [hn]
      · simp [hn]
    · rw [if_neg hk]
      by_cases hn : k < 8
      · simp [hn]
        exact fun h => absurd h.symm hk
      · simp [hn]
  · rw [e1]
    exact ⟨rfl, rfl, rfl, by simp [World.setRow], fun k hk hn => setRow_other W R k _ (fun e => hn (by rw [e]))⟩
def zarr : Array Value := Array.replicate 8 (.slice none 0 0)
theorem arr_built : Tryd.prog.built 58 [] = some zarr := by kernel_rfl
theorem zarr_one : zarr.all (·.oneCell') = true := by kernel_rfl
theorem arr_size : (Tryd.prog.info? 58).map (·.size) = some 8 := by kernel_rfl
theorem zarr_zero (w : World) : Sem.run Tryd.prog (zeroValue 58) w = .ok (.agg zarr) w := by kernel_rfl
/-- a row of bytes in a block of bytes -/
def RowK (z : List UInt8) (x : Value) (W : World) : Prop := RowV z x W ∧ ∃ g off l q cur, x = .slice (some ⟨g, off, none⟩) l q ∧ W.heap[g]? = some (.cells cur 5 (0, 0))
theorem RowK.later {z : List UInt8} {x : Value} {W W' : World} (h : RowK z x W) (hb : Below W.heap.size W W') : RowK z x W' := by
  obtain ⟨h1, g, off, l, q, cur, e, h2⟩ := h
  exact ⟨h1.later hb, g, off, l, q, cur, e, by rw [hb.block g (Array.getElem?_eq_some_iff.1 h2).1]; exact h2⟩
theorem RowK.grown {z : List UInt8} {x : Value} {W W' : World} {r : Option Nat} (h : RowK z x W) (hg : W.grownBy W' r) (hr : ∀ k, r = some k → ∃ cur T f, W.heap[k]? = some (.cells cur T f) ∧ T ≠ 5) : RowK z x W' := by
  obtain ⟨⟨o, c, e1, h1⟩, g, off, l, q, cur, rfl, h2⟩ := h
  cases e1
  have hgl := (Array.getElem?_eq_some_iff.1 h2).1
  have hne : some g ≠ r := fun e => by
    obtain ⟨cur', T, f, h3, h4⟩ := hr g e.symm
    rw [h2] at h3
    injection h3 with h3
    injection h3 with _ h3 _
    exact h4 h3.symm
  have hb := hg.block g hgl hne
  refine ⟨⟨_, _, rfl, h1.le, h1.cap, h1.nil, fun h0 => ?_⟩, g, off, _, _, cur, rfl, by rw [hb]; exact h2⟩
  obtain ⟨b', off', e, hlt, hc⟩ := h1.cells h0
  cases e
  refine ⟨g, off, rfl, Nat.lt_of_lt_of_le hgl hg.size, fun i v hv => ?_⟩
  have := hc i v hv
  unfold World.cell? at *
  rw [hb]; exact this
theorem blk_drop (p : List UInt8) (A j : Nat) : blk (p.drop (8 * A)) j = blk p (A + j) := by
  refine list_ext (by simp) fun i hi => ?_
  have hi : i < 8 := by simpa using hi
  rw [co_blk _ _ _ hi, co_blk _ _ _ hi]
  unfold co
  rw [List.getD_eq_getElem?_getD, List.getD_eq_getElem?_getD, List.getElem?_drop]
  congr 2; omega
theorem co_dropB (p : List UInt8) (n i : Nat) : co (p.drop n) i = co p (n + i) := by
  unfold co
  rw [List.getD_eq_getElem?_getD, List.getD_eq_getElem?_getD, List.getElem?_drop]
/-- the column, as far as it has been laid -/
def clm (p : List UInt8) (A j i : Nat) : List UInt8 := tab (fun t => co p (8 * (A + t) + j)) i
theorem clm_succ (p : List UInt8) (A j i : Nat) : clm p A j i ++ [co p (8 * (A + i) + j)] = clm p A j (i + 1) := tab_succ _ _
theorem clm_full (p : List UInt8) (A j s : Nat) (hj : j < 8) : clm p A j s = colB (dat p A s) j := by
  refine list_ext (by simp [clm]) fun i hi => ?_
  have hi : i < s := by simpa [clm] using hi
  unfold clm
  rw [co_tab _ _ _ hi, co_colB _ _ _ (by simpa using hi), bi_dat _ _ _ _ hi]
  unfold colV
  rw [if_pos (blk_length _ _), co_blk _ _ _ hj]
/-- a parity block, as far as it has been laid -/
def pbk (D : List (List UInt8)) (i j : Nat) : List UInt8 := tab (fun t => co (parL (colB D t)) i) j
theorem pbk_succ (D : List (List UInt8)) (i j : Nat) : pbk D i j ++ [co (parL (colB D j)) i] = pbk D i (j + 1) := tab_succ _ _
theorem parB_take (D : List (List UInt8)) (i : Nat) (h : i < 32) : (parB D).take i ++ [pbk D i 8] = (parB D).take (i + 1) := by
  rw [List.take_add_one, List.getElem?_eq_getElem (by simpa using h)]
  simp [parB, pbk]
structure OutI (w : World) (bs : List (List UInt8)) (v7 : Value) (n : Nat) (xs : List Value) (wr : World) : Prop where
  own : wr.ownsRow w.heap.size 22 1 v7 n xs
  els : ElsB 0 wr bs xs
  below : Below w.heap.size w wr
theorem OutI.later {w wr wr' : World} {bs : List (List UInt8)} {v7 : Value} {n : Nat} {xs : List Value} (h : OutI w bs v7 n xs wr) (hb : Below wr.heap.size wr wr') : OutI w bs v7 n xs wr' :=
  ⟨World.ownsRow.kept (row := none) h.own ⟨hb.os, hb.tape, hb.output, hb.size, fun i hi _ => hb.block i hi⟩ (by cases v7.ownBlock <;> simp), h.els.later hb, Kit.step h.below hb⟩
/-- a block more -/
theorem OutI.add {w wr w' : World} {bs : List (List UInt8)} {b : List UInt8} {v7 v' : Value} {n g cap l : Nat} {xs : List Value} (h : OutI w bs v7 n xs wr) (hb : Buf wr g cap b) (hl : b.length = l)
    (hown : w'.ownsRow w.heap.size 22 1 v' (n + 1) (xs ++ [.slice (some ⟨g, 0, none⟩) l cap])) (hg : wr.grownBy w' v7.ownBlock) : OutI w (bs ++ [b]) v' (n + 1) (xs ++ [.slice (some ⟨g, 0, none⟩) l cap]) w' := by
  subst hl
  exact ⟨hown, (h.els.app (ElsB.one ⟨_, cap, rfl, hb.row⟩ (hb.kind 0))).grown h.own hg (Nat.zero_le _), own_belowB h.below h.own hg⟩
theorem hdr_row (w : World) (x : Value) : RowIs (w.alloc (.cells #[x] 22)) (some ⟨w.heap.size, 0, none⟩) [x] 1 :=
  ⟨Nat.le_refl _, by unfold maxLen; omega, (fun e => by cases e), fun _ => ⟨w.heap.size, 0, rfl, by simp, fun i v hv => by
    match i, hv with
    | 0, hv =>
      rw [cell_new _ _ _ _ rfl]
      exact hv
    | i + 1, hv => simp at hv⟩⟩
def RkAt (p : List UInt8) (l : List Nat) (w : World) (v6 v7 iv : Value) (wr : World) : Prop :=
  ∃ (k A n : Nat) (xs : List Value), k ≤ l.length ∧ A = sumN (l.take k) ∧ iv = .int .i64 k ∧ RowV (p.drop (8 * A)) v6 w ∧ n = (grps p 0 (l.take k)).length ∧ OutI w (grps p 0 (l.take k)) v7 n xs wr
def R2At (G : List (List UInt8)) (p : List UInt8) (A s : Nat) (w : World) (v7 jv : Value) (wr : World) : Prop :=
  ∃ (j n : Nat) (xs : List Value), j ≤ s ∧ jv = .int .i64 j ∧ n = G.length + j ∧ OutI w (G ++ dat p A j) v7 n xs wr
theorem RowIs.dropB {W : World} {b off : Nat} {z : List UInt8} {c : Nat} (h : RowIs W (some ⟨b, off, none⟩) (bytesV z) c) (k : Nat) (hk : k ≤ z.length) : RowIs W (some ⟨b, off + k, none⟩) (bytesV (z.drop k)) (c - k) := by
  have h1 := h.le
  have h2 := h.cap
  rw [bytesV_length] at h1
  have h3 := h.part k (z.length - k) (by rw [bytesV_length]; omega) (c - k) (by omega) (by omega)
  have e : ((bytesV z).drop k).take (z.length - k) = bytesV (z.drop k) := by
    unfold bytesV
    rw [List.map_drop, List.take_of_length_le (by simp)]
  rwa [e] at h3
theorem ArrB.ne_own {W : World} {R n base : Nat} {f : Nat → Value} {v : Value} {xs : List Value} (h : ArrB W R f) (own : W.ownsRow base 22 1 v n xs) : v.ownBlock ≠ some R := fun e => by
  rcases own.2 with ⟨rfl, _⟩ | ⟨g, cap, cur2, rfl, _, h2, _⟩
  · cases e
  · cases e
    unfold ArrB at h
    rw [h] at h2
    cases h2
def R3At (D : List (List UInt8)) (R : Nat) (w : World) (iv : Value) (wr : World) : Prop :=
  ∃ (t : Nat) (f : Nat → Value), t ≤ 8 ∧ iv = .int .i64 t ∧ ArrB wr R f ∧ (∀ i, i < t → RowK (parL (colB D i)) (f i) wr) ∧ Below w.heap.size w wr
def R4At (p : List UInt8) (A t s : Nat) (w : World) (v iv : Value) (wr : World) : Prop :=
  ∃ i : Nat, i ≤ s ∧ iv = .int .i64 i ∧ wr.ownsRow w.heap.size 5 1 v i (bytesV (clm p A t i)) ∧ Below w.heap.size w wr
def R5At (D B : List (List UInt8)) (R n2 : Nat) (f : Nat → Value) (w : World) (v7 iv : Value) (wr : World) : Prop :=
  ∃ (i n : Nat) (xs : List Value), i ≤ 32 ∧ iv = .int .i64 i ∧ n = n2 + i ∧ OutI w (B ++ (parB D).take i) v7 n xs wr ∧ ArrB wr R f ∧ (∀ t, t < 8 → RowK (parL (colB D t)) (f t) wr)
def R6At (D : List (List UInt8)) (i : Nat) (w : World) (v tv : Value) (wr : World) : Prop :=
  ∃ t : Nat, t ≤ 8 ∧ tv = .int .i64 t ∧ wr.ownsRow w.heap.size 5 1 v t (bytesV (pbk D i t)) ∧ Below w.heap.size w wr
set_option maxRecDepth 100000 in
set_option maxHeartbeats 8000000 in
theorem rblocks_any (f : List UInt8) (o : Option Addr) (c : Nat) (w : World) (hR : RowIs w o (bytesV f) c) (hl : f.length ≤ 2000) (Z : Array Value) (hZ : zarr = Z) :
    Calls Tryd.prog 10 #[.slice o f.length c] w fun e w' => ∃ x, e = .returned (.tuple #[x, .int .i64 0]) ∧ RbV (allB f) x w' ∧ Below w.heap.size w w' := by
  have h1 := hR.le
  have h2 := hR.cap
  simp only [bytesV_length] at h1
  unfold maxLen at h2
  have HR := Lib.hid hR
  have hs := rshape_any f.length w hl
  have hnb := nbk_bd f.length hl
  have hnp := nbk_pos f.length
  have hll := shp_len f.length
  have hss := shp_sum f.length
  have hmem : ∀ k ∈ shp f.length, 1 ≤ k ∧ k ≤ 223 := shpN_mem (nbk f.length) hnp hnb
  have hpl := padL_length f
  have hall : allB f = grps (padL f) 0 (shp f.length) := rfl
  obtain ⟨l, hlq⟩ : ∃ l, shp f.length = l := ⟨_, rfl⟩
  obtain ⟨m, hmq⟩ : ∃ m, nbk f.length = m := ⟨_, rfl⟩
  obtain ⟨p, hpq⟩ : ∃ p, padL f = p := ⟨_, rfl⟩
  have HPD : Hid (∀ v, Below w.heap.size w v → Calls Tryd.prog 15 #[.slice o f.length c] v (Rows p v)) := Lib.hid fun v hb => by
    have := rpad_any f o c v (hR.later hb) (by omega)
    rwa [hpq] at this
  rw [hlq] at hs hll hss hmem hall
  rw [hmq] at hnb hnp hss hpl
  rw [hpq] at hpl hall
  have HS := Lib.hid hs
  have HSS := Lib.hid hss
  have HMM := Lib.hid hmem
  have HPL := Lib.hid hpl
  have HALL := Lib.hid hall
  have hbu := arr_built
  have hzs := zarr_zero
  have hsz := arr_size
  rw [hZ] at hbu hzs
  have HBU := Lib.hid hbu
  have HZ := Lib.hid hZ
  have HSZ : Hid ((Tryd.prog.info? 58).map (·.size) = some Z.size) := Lib.hid (by rw [arr_size, ← hZ]; rfl)
  have HST1 : Hid (Z.all (·.oneCell') = true) := Lib.hid (by rw [← hZ]; exact zarr_one)
  clear hR hs hss hmem hpl hall hlq hmq hpq hbu hZ hsz
  go_enter Tryd.func10, Tryd.ntmps10
  go_wp2_with fail
  refine HS.out.mono ?_; rintro e w1 ⟨x, rfl, ⟨o1, c1, rfl, hr⟩, hb⟩
  have hc1 := hr.cap
  have hle1 := hr.le
  simp at hle1
  unfold maxLen at hc1
  have HB1 := Lib.hid hb
  have HR1 := Lib.hid hr
  rw [natI_length]
  clear hb hr HS
  go_wp2_with fail
  refine (HPD.out _ HB1.out).mono ?_; rintro e w2 ⟨x6, rfl, hx6, hb⟩
  have HB2 := Lib.hid (Kit.step HB1.out hb)
  have HR2 := Lib.hid (HR1.out.later hb)
  have HX6 := Lib.hid hx6
  obtain ⟨w3, hw3⟩ : ∃ w3, w2.alloc (.cells #[] 22) = w3 := ⟨_, rfl⟩
  have HO3 : Hid (OutI w2 [] (.slice (some ⟨w2.heap.size, 0, none⟩) 0 0) 0 [] w3) := Lib.hid (by
    rw [← hw3]
    exact ⟨World.ownsRow_lit w2 #[] 0 (Nat.le_refl _) (Nat.zero_le _) rfl, ElsB.nil _ _, below_new _ _⟩)
  have HW3 := Lib.hid hw3
  clear hb hx6 hw3 HPD HR1
  go_wp2_with (rw [HW3.out])
  go_loopw [6, 7, 32] (fun v6 v7 iv wr => RkAt p l w2 v6 v7 iv wr) (fun _ _ iv _ => l.length - (intOf iv).toNat)
  case atStart => exact ⟨0, 0, 0, [], Nat.zero_le _, rfl, rfl, by simpa using HX6.out, rfl, HO3.out⟩
  case round =>
    clear HO3 HW3 HX6
    obtain ⟨k, A, n, xs, hk, hA, rfl, ⟨o6, c6, rfl, hv6⟩, hn, hout⟩ := hrel
    have HO := Lib.hid hout
    have HAA := Lib.hid hA
    have HNN := Lib.hid hn
    have hbw := hout.below
    have h6l : (p.drop (8 * A)).length = 8 * m - 8 * A := by rw [List.length_drop, HPL.out]
    rw [h6l]
    have h61 := hv6.le
    have h62 := hv6.cap
    rw [bytesV_length, h6l] at h61
    unfold maxLen at h62
    obtain ⟨n6, hn6⟩ : ∃ n6, 8 * m - 8 * A = n6 := ⟨_, rfl⟩
    rw [hn6] at h61 ⊢
    by_cases hlt : k < l.length
    · obtain ⟨b1, off1, rfl, _, hcl⟩ := natI_cell (HR2.out.later hbw) k hlt
      change wr.cell? _ = some (.int .i64 ((szG l k : Nat) : Int)) at hcl
      have hst := sumN_take_succ l k hlt
      change _ = _ + szG l k at hst
      have hsl := sumN_take_le l (k + 1)
      rw [HSS.out] at hsl
      have hmk := HMM.out _ (szG_mem l k hlt)
      have hgl : (grps p 0 (l.take k)).length = sumN (l.take k) + 32 * k := by
        rw [grps_length, List.length_take]; congr 1; omega
      have hgn : grps p 0 (l.take (k + 1)) = grps p 0 (l.take k) ++ grpB p (sumN (l.take k)) (szG l k) := by
        have e : l.take (k + 1) = l.take k ++ [szG l k] := by
          rw [List.take_add_one, List.getElem?_eq_getElem hlt]
          simp [szG, List.getD_eq_getElem?_getD, List.getElem?_eq_getElem hlt]
        rw [e, grps_snoc, Nat.zero_add]
      obtain ⟨s, hs⟩ : ∃ s, szG l k = s := ⟨_, rfl⟩
      obtain ⟨G, hG⟩ : ∃ G, grps p 0 (l.take k) = G := ⟨_, rfl⟩
      rw [← hA] at hst hgl hgn
      rw [hs] at hcl hst hmk hgn
      rw [hG] at hgl hgn hout hn
      have HO := Lib.hid hout
      have hs1 := hmk.1
      have hs2 := hmk.2
      have hAs : A + s ≤ m := by omega
      have hn1 : n = A + 32 * k := by omega
      have hn7 : n ≤ 600 := by omega
      have hk0 : (0 : Int) ≤ (k : Int) := by omega
      have hk1 : (k : Int) < (l.length : Int) := by omega
      have HGN := Lib.hid hgn
      have HST := Lib.hid hst
      have HGL : Hid (n = G.length) := Lib.hid hn
      have hs8 : 8 * s ≤ n6 := by omega
      obtain ⟨b6, off6, rfl, hb6, _⟩ := hv6.cells (by rw [bytesV_length, h6l]; omega)
      have HV6 := Lib.hid hv6
      have H6L := Lib.hid h6l
      have HN6 := Lib.hid hn6
      clear hout hbw hst hsl hmk hgl hgn hs hG hA hn hv6 h6l hn6 hn1
      go_wp2_with fail
      go_loopw [7, 10] (fun v7 jv wr2 => R2At G p A s w2 v7 jv wr2) (fun _ jv _ => s - (intOf jv).toNat)
      case atStart => exact ⟨0, n, xs, Nat.zero_le _, rfl, HGL.out, by simpa [dat] using HO.out⟩
      case round =>
        rename World => W2
        obtain ⟨j, n2, ys, hj, rfl, hn2, hout⟩ := hrel
        have HO2 := Lib.hid hout
        have HN2 := Lib.hid hn2
        by_cases hjl : j < s
        · have hj0 : (0 : Int) ≤ (j : Int) := by omega
          have hj8 : 8 * j + 8 ≤ n6 := by omega
          have hrow := ((HV6.out.later hout.below).part (8 * j) 8 (by rw [bytesV_length, H6L.out, HN6.out]; omega) (c6 - 8 * j) (by omega) (by unfold maxLen; omega))
          rw [blk_part _ _ (by rw [H6L.out, HN6.out]; omega), blk_drop] at hrow
          obtain ⟨w5, hw5⟩ : ∃ w5, W2.alloc (.cells #[] 5) = w5 := ⟨_, rfl⟩
          have HO5 : Hid (w5.ownsRow W2.heap.size 5 1 (.slice (some ⟨W2.heap.size, 0, none⟩) 0 0) 0 (bytesV [])) := Lib.hid (by rw [← hw5]; exact World.ownsRow_lit W2 #[] 0 (Nat.le_refl _) (Nat.zero_le _) rfl)
          have hb5 : Below W2.heap.size W2 w5 := by rw [← hw5]; exact below_new _ _
          have HB5 := Lib.hid hb5
          have HRW := Lib.hid (hrow.later hb5)
          have HW5 := Lib.hid hw5
          obtain ⟨a, ha⟩ : ∃ a, 8 * j = a := ⟨_, rfl⟩
          have hai : 8 * (j : Int) = (a : Int) := by omega
          have hac : ¬ c6 = a := by omega
          have hac2 : (a : Int) + 8 ≤ (c6 : Int) := by omega
          have hac3 : (a : Int) + 8 ≤ (n6 : Int) := by omega
          rw [ha] at HRW
          clear hout hn2 hrow hw5 hb5 ha
          go_wp2_with (first | rw [HW5.out] | (at_builtin; refine append_row rfl (.tmp 42) (.tmp 49) rfl W2.heap.size _ 0 [] rfl HO5.out _ (a + 8 - a) _ (blk p (A + j)) rfl (by rw [blk_length]; omega) HRW.out (by omega) HB5.out.size ?_))
          intro v50 w6 hv hg
          have hb6w := own_below (n := 0) HB5.out HO5.out hg
          obtain ⟨g, cap, rfl, hgg, hbuf⟩ := own_buf hv (by omega) (by rw [blk_length])
          rw [blk_length] at ⊢
          obtain ⟨w7, hw7⟩ : ∃ w7, w6.alloc (.cells #[.slice (some ⟨g, 0, none⟩) 8 cap] 22) = w7 := ⟨_, rfl⟩
          have hb7 : Below w6.heap.size w6 w7 := by rw [← hw7]; exact below_new _ _
          have HO7 := Lib.hid ((HO2.out.later hb6w).later hb7)
          have HBF7 := Lib.hid (hbuf.later hb7)
          have HH7 : Hid (RowIs w7 (some ⟨w6.heap.size, 0, none⟩) [.slice (some ⟨g, 0, none⟩) 8 cap] 1) := Lib.hid (by rw [← hw7]; exact hdr_row w6 _)
          have HW7 := Lib.hid hw7
          have hn9 : n2 ≤ 900 := by have := HN2.out; have := HGL.out; omega
          clear hv hg hb6w hgg hbuf hw7 hb7
          go_wp2_with (first | rw [HW7.out] | (at_builtin; refine append_rowsH rfl (.tmp 41) (.tmp 51) rfl w2.heap.size _ n2 ys rfl HO7.out.own _ 1 1 [.slice (some ⟨g, 0, none⟩) 8 cap] rfl rfl HH7.out (fun u hu => by rw [List.mem_singleton] at hu; subst hu; rfl) (by omega) HO7.out.below.size ?_))
          intro v52 w8 hv hg
          have HO8 : Hid (OutI w2 (G ++ dat p A (j + 1)) v52 (n2 + 1) (ys ++ [.slice (some ⟨g, 0, none⟩) 8 cap]) w8) := Lib.hid (by
            have := HO7.out.add HBF7.out (blk_length _ _) hv hg
            rwa [List.append_assoc, ← dat_succ] at this)
          clear hv hg
          go_wp2_with fail
          go_roundw
          case rel => exact ⟨j + 1, n2 + 1, _, by omega, by go_num, by have := HN2.out; omega, HO8.out⟩
          case measure => simp [intOf]; omega
        · obtain rfl : j = s := by omega
          have hnz : n2 ≤ 900 := by have := HN2.out; have := HGL.out; omega
          clear hout hn2
          have HGZ : Hid ((W2.alloc (.cells Z 58)).heap[W2.heap.size]? = some (.cells Z 58 (0, 0))) := Lib.hid (World.alloc_heap_new _ _)
          go_wp2_with (first | refine build_syn rfl 58 rfl Z HBU.out ?_ | refine wpList_store_row rfl 58 (.tmp 11) (.tmp 53) rfl W2.heap.size Z rfl rfl 58 Z HGZ.out HSZ.out rfl HST1.out ?_)
          obtain ⟨w9, hw9⟩ : ∃ w9, (W2.alloc (.cells Z 58)).setRow W2.heap.size Z = w9 := ⟨_, rfl⟩
          rw [hw9]
          obtain ⟨R, hRq⟩ : ∃ R, W2.heap.size = R := ⟨_, rfl⟩
          have HA9 : Hid (ArrB w9 R (fun _ => .slice none 0 0)) := Lib.hid (by
            rw [← hw9, ← hRq]
            have := setRow_heap _ _ _ Z _ _ HGZ.out
            rw [← HZ.out] at this ⊢
            exact this)
          have HB9 : Hid (Below W2.heap.size W2 w9) := Lib.hid (by rw [← hw9]; exact (below_new _ _).trans (below_setRow (Nat.le_refl _)))
          rw [hRq]
          have HRQ := Lib.hid hRq
          obtain ⟨D, hD⟩ : ∃ D, dat p A j = D := ⟨_, rfl⟩
          have HD := Lib.hid hD
          clear hw9 hRq hD HGZ
          go_loopw [12] (fun iv wr3 => R3At D R W2 iv wr3) (fun iv _ => 8 - (intOf iv).toNat)
          case atStart => exact ⟨0, _, Nat.zero_le _, rfl, HA9.out, fun i hi => absurd hi (by omega), HB9.out⟩
          case round =>
            rename World => W3
            clear HA9 HB9
            obtain ⟨t, F, ht, rfl, harr, hrk, hb3⟩ := hrel
            have HARR := Lib.hid harr
            have HRK := Lib.hid hrk
            have HB3 := Lib.hid hb3
            by_cases ht8 : t < 8
            · have ht0 : (0 : Int) ≤ (t : Int) := by omega
              have ht1 : (t : Int) < 8 := by omega
              obtain ⟨w10, hw10⟩ : ∃ w10, W3.alloc (.cells #[] 5) = w10 := ⟨_, rfl⟩
              have HO10 : Hid (w10.ownsRow W3.heap.size 5 1 (.slice (some ⟨W3.heap.size, 0, none⟩) 0 0) 0 (bytesV (clm p A t 0))) := Lib.hid (by rw [← hw10]; exact World.ownsRow_lit W3 #[] 0 (Nat.le_refl _) (Nat.zero_le _) rfl)
              have HB10 : Hid (Below W3.heap.size W3 w10) := Lib.hid (by rw [← hw10]; exact below_new _ _)
              have HW10 := Lib.hid hw10
              clear harr hrk hb3 hw10
              go_wp2_with (rw [HW10.out])
              go_loopw [13, 14] (fun v iv wr4 => R4At p A t j W3 v iv wr4) (fun _ iv _ => j - (intOf iv).toNat)
              case atStart => exact ⟨0, Nat.zero_le _, rfl, HO10.out, HB10.out⟩
              case round =>
                rename World => W4
                clear HO10 HB10
                obtain ⟨i, hi, rfl, hv, hb4⟩ := hrel
                have HV := Lib.hid hv
                have HB4 := Lib.hid hb4
                by_cases hij : i < j
                · obtain ⟨e, he⟩ : ∃ e, 8 * i + t = e := ⟨_, rfl⟩
                  obtain ⟨_, _, e2, _, hcell⟩ := (HV6.out.later (Kit.step (Kit.step HO2.out.below HB3.out) HB4.out)).cells (by rw [bytesV_length, H6L.out, HN6.out]; omega)
                  cases e2
                  have hc1 := hcell e _ (bytesV_get _ e (by rw [H6L.out, HN6.out]; omega))
                  have hce : (p.drop (8 * A)).getD e 0 = co p (8 * (A + i) + t) := by
                    have := co_dropB p (8 * A) e
                    unfold co at this ⊢
                    rw [this]
                    congr 1; omega
                  rw [hce] at hc1
                  have hcs := clm_succ p A t i
                  generalize co p (8 * (A + i) + t) = y at *
                  have hyl := UInt8.toNat_lt y
                  obtain ⟨w11, hw11⟩ : ∃ w11, W4.alloc (.cells #[.int .u8 (y.toNat : Int)] 5) = w11 := ⟨_, rfl⟩
                  have HO11 : Hid (w11.ownsRow W3.heap.size 5 1 _ i (bytesV (clm p A t i))) := Lib.hid (by rw [← hw11]; exact World.ownsRow.alloc hv _)
                  have HZ11 : Hid (RowIs w11 (some ⟨W4.heap.size, 0, none⟩) (bytesV [y]) 1) := Lib.hid (by rw [← hw11]; exact byte_row W4 y)
                  have HB11 : Hid (Below W3.heap.size W3 w11) := Lib.hid (by rw [← hw11]; exact hb4.alloc hb4.size _)
                  have HW11 := Lib.hid hw11
                  have HCS := Lib.hid hcs
                  have hei : 8 * (i : Int) + (t : Int) = (e : Int) := by omega
                  have hen : (e : Int) < (n6 : Int) := by omega
                  have he0 : (0 : Int) ≤ (e : Int) := by omega
                  have hi0 : (0 : Int) ≤ (i : Int) := by omega
                  clear hv hb4 hw11 hcell he hce hcs
                  go_wp2_with (first | rw [HW11.out] | (at_builtin; refine append_row rfl (.tmp 64) (.tmp 72) rfl W3.heap.size _ i (clm p A t i) rfl HO11.out _ 1 1 [y] rfl rfl HZ11.out (by omega) HB11.out.size ?_))
                  intro v' w12 hv hg
                  have HV12 : Hid (w12.ownsRow W3.heap.size 5 1 v' (i + 1) (bytesV (clm p A t (i + 1)))) := Lib.hid (by rw [← HCS.out]; exact hv)
                  have HB12 := Lib.hid (own_below (n := 0) HB11.out HO11.out hg)
                  clear hv hg
                  go_wp2_with fail
                  go_roundw
                  case rel => exact ⟨i + 1, by omega, by go_num, HV12.out, HB12.out⟩
                  case measure => simp [intOf]; omega
                · obtain rfl : i = j := by omega
                  have hcl : (clm p A t i).length = i := by simp [clm]
                  obtain ⟨oc, cc, rfl, hrow⟩ := owns_rv hv hcl.symm
                  have hpar := rpar_kind (clm p A t i) oc cc W4 hrow (by rw [hcl]; exact hs1) (by rw [hcl]; exact hs2)
                  rw [hcl] at hpar ⊢
                  have hrc1 := hrow.le
                  have hrc2 := hrow.cap
                  rw [bytesV_length, hcl] at hrc1
                  unfold maxLen at hrc2
                  have HPA := Lib.hid hpar
                  have HFL : Hid (clm p A t i = colB D t) := Lib.hid (by rw [← HD.out]; exact clm_full p A t i ht8)
                  clear hv hb4 hpar hrow hcl
                  go_wp2_with fail
                  refine HPA.out.mono ?_; rintro e w13 ⟨r, x, hr, hc, rfl, hx, hb, g, off, q, cur, rfl, hcur⟩
                  obtain rfl := parL_only hc hr (by simp [clm]; exact hs2)
                  rw [HFL.out] at hx
                  have HK13 : Hid (RowK (parL (colB D t)) (.slice (some ⟨g, off, none⟩) 32 q) w13) := Lib.hid ⟨hx, g, off, 32, q, cur, rfl, hcur⟩
                  have hb13 := Kit.step HB4.out hb
                  have harr := HARR.out.later hb13
                  have hc0 := harr.cell t ht8
                  have hf0 := harr.frozen t
                  have hst := harr.store t (.slice (some ⟨g, off, none⟩) 32 q)
                  have HA13 := Lib.hid hst.1
                  have hkk : ∀ k, some R = some k → ∃ cur T f, w13.heap[k]? = some (.cells cur T f) ∧ T ≠ 5 := fun k e => by
                    cases e
                    exact ⟨_, _, _, harr, by decide⟩
                  have HR13 : Hid (∀ i', i' < t + 1 → RowK (parL (colB D i')) (if i' = t then .slice (some ⟨g, off, none⟩) 32 q else F i') (w13.setCell ⟨R, t, none⟩ (.slice (some ⟨g, off, none⟩) 32 q))) := Lib.hid fun i' hi' => by
                    by_cases e : i' = t
                    · subst e
                      rw [if_pos rfl]
                      exact HK13.out.grown hst.2 hkk
                    · rw [if_neg e]
                      exact ((HRK.out i' (by omega)).later hb13).grown hst.2 hkk
                  have HB13 : Hid (Below W2.heap.size W2 (w13.setCell ⟨R, t, none⟩ (.slice (some ⟨g, off, none⟩) 32 q))) := Lib.hid ((Kit.step HB3.out hb13).trans (Only.below hst.2 (by rw [HRQ.out]; exact Nat.le_refl _) (Kit.step HB3.out hb13).size))
                  clear hr hc hx hb hcur hb13 harr hst hkk HPA
                  go_wp2_with fail
                  go_roundw
                  case rel => exact ⟨t + 1, _, by omega, by go_num, HA13.out, HR13.out, HB13.out⟩
                  case measure => simp [intOf]; omega
            · obtain rfl : t = 8 := by omega
              rw [show (((8 : Nat) : Int)) = 8 from rfl]
              have HO3' : Hid (OutI w2 (G ++ D ++ (parB D).take 0) _ n2 ys W3) := Lib.hid (by
                rw [List.take_zero, List.append_nil, ← HD.out]
                exact HO2.out.later hb3)
              clear harr hrk hb3
              go_wp2_with fail
              go_loopw [7, 15] (fun v7 iv wr5 => R5At D (G ++ D) R n2 F w2 v7 iv wr5) (fun _ iv _ => 32 - (intOf iv).toNat)
              case atStart => exact ⟨0, n2, ys, Nat.zero_le _, rfl, rfl, HO3'.out, HARR.out, HRK.out⟩
              case round =>
                rename World => W5
                obtain ⟨i, n3, zs, hi, rfl, hn3, hout, harr, hrk⟩ := hrel
                have HO5 := Lib.hid hout
                have HA5 := Lib.hid harr
                have HR5 := Lib.hid hrk
                have HN3 := Lib.hid hn3
                by_cases hi32 : i < 32
                · have hi0 : (0 : Int) ≤ (i : Int) := by omega
                  have hi1 : (i : Int) < 32 := by omega
                  obtain ⟨w14, hw14⟩ : ∃ w14, W5.alloc (.cells #[] 5) = w14 := ⟨_, rfl⟩
                  have HO14 : Hid (w14.ownsRow W5.heap.size 5 1 (.slice (some ⟨W5.heap.size, 0, none⟩) 0 0) 0 (bytesV (pbk D i 0))) := Lib.hid (by rw [← hw14]; exact World.ownsRow_lit W5 #[] 0 (Nat.le_refl _) (Nat.zero_le _) rfl)
                  have HB14 : Hid (Below W5.heap.size W5 w14) := Lib.hid (by rw [← hw14]; exact below_new _ _)
                  have HW14 := Lib.hid hw14
                  clear hout harr hrk hn3 hw14
                  go_wp2_with (rw [HW14.out])
                  go_loopw [16, 17] (fun v tv wr6 => R6At D i W5 v tv wr6) (fun _ tv _ => 8 - (intOf tv).toNat)
                  case atStart => exact ⟨0, Nat.zero_le _, rfl, HO14.out, HB14.out⟩
                  case round =>
                    rename World => W6
                    clear HO14 HB14
                    obtain ⟨t, ht, rfl, hv, hb6⟩ := hrel
                    have HV := Lib.hid hv
                    have HB6 := Lib.hid hb6
                    by_cases ht8 : t < 8
                    · have ht0 : (0 : Int) ≤ (t : Int) := by omega
                      have ht1 : (t : Int) < 8 := by omega
                      have hcF := (HA5.out.later hb6).cell t ht8
                      obtain ⟨⟨oF, cF, hFe, hFr⟩, _⟩ := (HR5.out t ht8).later hb6
                      rw [parL_length] at hFe
                      rw [hFe] at hcF
                      obtain ⟨bF, fF, rfl, _, hcell⟩ := hFr.cells (by simp)
                      have hc1 := hcell i _ (bytesV_get _ i (by simpa using hi32))
                      have hcc := hFr.le
                      have hcm := hFr.cap
                      simp at hcc
                      unfold maxLen at hcm
                      have hps := pbk_succ D i t
                      have hyy : (parL (colB D t)).getD i 0 = co (parL (colB D t)) i := rfl
                      rw [hyy] at hc1
                      generalize co (parL (colB D t)) i = y at *
                      have hyl := UInt8.toNat_lt y
                      obtain ⟨w15, hw15⟩ : ∃ w15, W6.alloc (.cells #[.int .u8 (y.toNat : Int)] 5) = w15 := ⟨_, rfl⟩
                      have HO15 : Hid (w15.ownsRow W5.heap.size 5 1 _ t (bytesV (pbk D i t))) := Lib.hid (by rw [← hw15]; exact World.ownsRow.alloc hv _)
                      have HZ15 : Hid (RowIs w15 (some ⟨W6.heap.size, 0, none⟩) (bytesV [y]) 1) := Lib.hid (by rw [← hw15]; exact byte_row W6 y)
                      have HB15 : Hid (Below W5.heap.size W5 w15) := Lib.hid (by rw [← hw15]; exact hb6.alloc hb6.size _)
                      have HW15 := Lib.hid hw15
                      have HPS := Lib.hid hps
                      clear hv hb6 hw15 hcell hps hFe hFr hyy
                      go_wp2_with (first | rw [HW15.out] | (at_builtin; refine append_row rfl (.tmp 90) (.tmp 97) rfl W5.heap.size _ t (pbk D i t) rfl HO15.out _ 1 1 [y] rfl rfl HZ15.out (by omega) HB15.out.size ?_))
                      intro v' w16 hv hg
                      have HV16 : Hid (w16.ownsRow W5.heap.size 5 1 v' (t + 1) (bytesV (pbk D i (t + 1)))) := Lib.hid (by rw [← HPS.out]; exact hv)
                      have HB16 := Lib.hid (own_below (n := 0) HB15.out HO15.out hg)
                      clear hv hg
                      go_wp2_with fail
                      go_roundw
                      case rel => exact ⟨t + 1, by omega, by go_num, HV16.out, HB16.out⟩
                      case measure => simp [intOf]; omega
                    · obtain rfl : t = 8 := by omega
                      have hpl8 : (pbk D i 8).length = 8 := by simp [pbk]
                      obtain ⟨g, cap, rfl, _, hbuf⟩ := own_buf hv (by omega) hpl8.symm
                      rw [hpl8]
                      obtain ⟨w17, hw17⟩ : ∃ w17, W6.alloc (.cells #[.slice (some ⟨g, 0, none⟩) 8 cap] 22) = w17 := ⟨_, rfl⟩
                      have hb17 : Below W6.heap.size W6 w17 := by rw [← hw17]; exact below_new _ _
                      have HO17 := Lib.hid ((HO5.out.later hb6).later hb17)
                      have HBF17 := Lib.hid (hbuf.later hb17)
                      have HH17 : Hid (RowIs w17 (some ⟨W6.heap.size, 0, none⟩) [.slice (some ⟨g, 0, none⟩) 8 cap] 1) := Lib.hid (by rw [← hw17]; exact hdr_row W6 _)
                      have HA17 := Lib.hid ((HA5.out.later hb6).later hb17)
                      have HR17 : Hid (∀ t, t < 8 → RowK (parL (colB D t)) (F t) w17) := Lib.hid fun t ht => ((HR5.out t ht).later hb6).later hb17
                      have HW17 := Lib.hid hw17
                      have HP8 := Lib.hid hpl8
                      have hn9 : n3 ≤ 1000 := by have := HN3.out; omega
                      clear hv hb6 hbuf hw17 hb17 hpl8
                      go_wp2_with (first | rw [HW17.out] | (at_builtin; refine append_rowsH rfl (.tmp 99) (.tmp 101) rfl w2.heap.size _ n3 zs rfl HO17.out.own _ 1 1 [.slice (some ⟨g, 0, none⟩) 8 cap] rfl rfl HH17.out (fun u hu => by rw [List.mem_singleton] at hu; subst hu; rfl) (by omega) HO17.out.below.size ?_))
                      intro v102 w18 hv hg
                      have HO18 : Hid (OutI w2 (G ++ D ++ (parB D).take (i + 1)) v102 (n3 + 1) (zs ++ [.slice (some ⟨g, 0, none⟩) 8 cap]) w18) := Lib.hid (by
                        have := HO17.out.add HBF17.out HP8.out hv hg
                        rwa [List.append_assoc, parB_take D i hi32] at this)
                      have HA18 := Lib.hid (HA17.out.grown hg (HA17.out.ne_own HO17.out.own))
                      have HR18 : Hid (∀ t, t < 8 → RowK (parL (colB D t)) (F t) w18) := Lib.hid fun t ht => (HR17.out t ht).grown hg fun k e => (own_kind HO17.out.own (by decide) k e).2
                      clear hv hg
                      go_wp2_with fail
                      go_roundw
                      case rel => exact ⟨i + 1, n3 + 1, _, by omega, by go_num, by have := HN3.out; omega, HO18.out, HA18.out, HR18.out⟩
                      case measure => simp [intOf]; omega
                · obtain rfl : i = 32 := by omega
                  have htk : (parB D).take 32 = parB D := List.take_of_length_le (by simp)
                  have HOE : Hid (OutI w2 (grps p 0 (l.take (k + 1))) _ n3 zs W5) := Lib.hid (by
                    have := hout
                    rw [htk] at this
                    rw [HGN.out]
                    unfold grpB
                    rw [HD.out, ← List.append_assoc]
                    exact this)
                  have HNE : Hid (n3 = (grps p 0 (l.take (k + 1))).length) := Lib.hid (by
                    rw [HGN.out, List.length_append, grpB_length]
                    have h1 := HN3.out
                    have h2 := HN2.out
                    have h3 := HGL.out
                    omega)
                  obtain ⟨a, ha⟩ : ∃ a, 8 * j = a := ⟨_, rfl⟩
                  have hai : 8 * (j : Int) = (a : Int) := by omega
                  have HD6 := Lib.hid (HV6.out.dropB a (by rw [H6L.out, HN6.out]; omega))
                  have hdd : (p.drop (8 * A)).drop a = p.drop (8 * (A + j)) := by
                    rw [List.drop_drop]; congr 1; omega
                  rw [hdd] at HD6
                  have HLD : Hid ((p.drop (8 * (A + j))).length = n6 - a) := Lib.hid (by
                    rw [List.length_drop, HPL.out]
                    have := HN6.out
                    omega)
                  have han : a ≤ n6 := by omega
                  have hani : (a : Int) ≤ (n6 : Int) := by omega
                  have haci : (a : Int) ≤ (c6 : Int) := by omega
                  have HA8 := Lib.hid ha
                  clear hout harr hrk hn3 hdd htk ha
                  by_cases hca : c6 = a
                  · have hna : n6 = a := by omega
                    subst hna
                    subst hca
                    have HE : Hid (p.drop (8 * (A + j)) = []) := Lib.hid (List.eq_nil_of_length_eq_zero (by rw [HLD.out]; omega))
                    go_wp2_with fail
                    go_roundw
                    case rel => exact ⟨k + 1, A + j, n3, zs, by omega, HST.out.symm, by go_num, by rw [HE.out]; exact ⟨_, 0, rfl, RowIs.empty _ 0 (Nat.zero_le _) (fun e => by cases e)⟩, HNE.out, HOE.out⟩
                    case measure => simp [intOf]; omega
                  · go_wp2_with fail
                    go_roundw
                    case rel => exact ⟨k + 1, A + j, n3, zs, by omega, HST.out.symm, by go_num, ⟨_, _, by rw [HLD.out], HD6.out⟩, HNE.out, HOE.out⟩
                    case measure => simp [intOf]; omega
    · obtain rfl : k = l.length := by omega
      have HRB : Hid (RbV (allB f) _ wr) := Lib.hid (by
        have h1 := owns_rb hout.own (by rw [hn]) hout.els.els
        rw [HALL.out]
        rw [List.take_length] at h1
        exact h1)
      have HBE := Lib.hid (HB2.out.trans (hbw.mono HB2.out.size))
      clear hout hbw hA hn hv6 h6l hn6
      go_wp2_with fail
      go_ret2
      exact ⟨_, rfl, HRB.out, HBE.out⟩
end Go.Proofs.YtgifbpjmblemhaaDoor
