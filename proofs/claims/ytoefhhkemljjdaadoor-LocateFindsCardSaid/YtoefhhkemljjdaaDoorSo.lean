/- What Gauss' loops hold in memory. -/
import Derived.Test.YtoefhhkemljjdaaDoorEq
import Derived.Test.YtoefhhkemljjdaaDoorDf
import Derived.Deep.Onto
namespace Go.Proofs.YtoefhhkemljjdaaDoor
open Go.RowKit
set_option linter.unusedVariables false
set_option linter.unusedSimpArgs false
theorem info_row : (Tryd.prog.info? 26).map (fun i => (i.zero, i.size, i.bytes)) = some (some (.slice none 0 0), 1, 24) := by kernel_rfl
theorem own_bufM {w : World} {base n : Nat} {v : Value} {z : List UInt8} (h : w.ownsRow base 5 1 v n (bytesV z)) (h0 : 0 < n) (hn : n = z.length) : ∃ g cap, v = .slice (some ⟨g, 0, none⟩) z.length cap ∧ base ≤ g ∧ Buf w g cap z := by
  subst hn
  rcases h.2 with ⟨_, h1⟩ | ⟨g, cap, cur, rfl, hg, _⟩
  · omega
  · exact ⟨g, cap, rfl, hg, World.ownsRow.mono h (Nat.zero_le _)⟩
/-- rows that are only read -/
structure RIn (W : World) (gI N R : Nat) (m : Nat → Nat → UInt8) : Prop where
  lt : gI < W.heap.size
  row : ∀ i, i < R → ∃ o c, W.cell? ⟨gI, i, none⟩ = some (.slice o N c) ∧ RowIs W o (bytesV (tab (m i) N)) c
theorem RIn.later {W W' : World} {gI N R : Nat} {m : Nat → Nat → UInt8} (h : RIn W gI N R m) (hb : Below W.heap.size W W') : RIn W' gI N R m :=
  ⟨Nat.lt_of_lt_of_le h.lt hb.size, fun i hi => by
    obtain ⟨o, c, h1, h2⟩ := h.row i hi
    exact ⟨o, c, (hb.cell (p := ⟨gI, i, none⟩) h.lt).trans h1, h2.later hb⟩⟩
theorem append_hdr {ops : Array Oper} {rest : List Oper} {o : Oper} {a : Act} {Q : Exit → Act → World → Prop} {w : World} (hgd : o.guard = none) (s x : Operand)
    (ho : o.op = .call { callee := .builtin .append, args := #[s, x], argTypes := #[79, 79] })
    (base : Nat) (v : Value) (n : Nat) (z : List Value) (hs : a.eval s = v) (hown : w.ownsRow base 26 1 v n z)
    (g : Nat) (p : Option Addr) (l c : Nat) (hx : a.eval x = .slice (some ⟨g, 0, none⟩) 1 1) (hg : w.cell? ⟨g, 0, none⟩ = some (.slice p l c)) (hl : n ≤ 1000000) (hbase : base ≤ w.heap.size)
    (h : ∀ v' w', w'.ownsRow base 26 1 v' (n + 1) (z ++ [.slice p l c]) → w.grownBy w' v.ownBlock → wpList Tryd.prog ops Q rest (a.put o.dst v') w') : wpList Tryd.prog ops Q (o :: rest) a w := by
  obtain ⟨i0, hi, hz0, hz1, hz2⟩ := info_parts info_row
  refine wpList_append_own_wide w hgd s x 79 ho base 26 i0 (.slice none 0 0) 1 24 Tryd.underlying79 hi hz0 hz1 hz2 rfl (by decide) v n z hs hown ⟨g, 0, none⟩ 1 1 [.slice p l c] hx (by simp) (fun j u hj => ?_) (fun u hu => ?_) (by unfold maxLen; omega) (by omega) hbase ?_
  · have h1 := (List.getElem?_eq_some_iff.1 hj).1
    simp at h1
    subst h1
    simp at hj
    subst hj
    exact hg
  · simp at hu
    subst hu
    rfl
  · intro v' w' h1 h2 _
    exact h v' w' h1 h2
/-- the rows that have been copied so far -/
def Cpy (W : World) (B N k : Nat) (v : Value) (m : Nat → Nat → UInt8) : Prop := ∃ gO capO Gb Gc, v = .slice (some ⟨gO, 0, none⟩) k capO ∧ Mat W B gO capO N k Gb Gc m
theorem Cpy.later {W W' : World} {B N k : Nat} {v : Value} {m : Nat → Nat → UInt8} (h : Cpy W B N k v m) (hb : Below W.heap.size W W') : Cpy W' B N k v m := by
  obtain ⟨gO, capO, Gb, Gc, e, h⟩ := h
  exact ⟨gO, capO, Gb, Gc, e, h.later hb⟩
theorem Cpy.start (W : World) (B N : Nat) (m : Nat → Nat → UInt8) (hB : B ≤ W.heap.size) : Cpy (W.alloc (.cells #[] 26)) B N 0 (.slice (some ⟨W.heap.size, 0, none⟩) 0 0) m :=
  ⟨W.heap.size, 0, fun _ => 0, fun _ => 0, rfl, World.ownsRow_lit W #[] 0 hB (Nat.zero_le _) rfl, fun i hi => absurd hi (by omega), fun i j hi => absurd hi (by omega)⟩
/-- a row more: row k in a new block g, behind the append of its header -/
theorem Cpy.add {W W' : World} {B N k gO capO : Nat} {Gb Gc : Nat → Nat} {v' : Value} {m : Nat → Nat → UInt8} (h : Mat W B gO capO N k Gb Gc m) (g cap : Nat) (hg : B ≤ g) (hrow : Buf W g cap (tab (m k) N)) (hn : ∀ i, i < k → Gb i ≠ g)
    (h1 : W'.ownsRow B 26 1 v' (k + 1) (((List.range k).map fun i => (.slice (some ⟨Gb i, 0, none⟩) N (Gc i) : Value)) ++ [.slice (some ⟨g, 0, none⟩) N cap])) (hgr : W.grownBy W' (some gO)) : Cpy W' B N (k + 1) v' m := by
  have e : ((List.range k).map fun i => (.slice (some ⟨Gb i, 0, none⟩) N (Gc i) : Value)) ++ [.slice (some ⟨g, 0, none⟩) N cap] = (List.range (k + 1)).map fun i => (.slice (some ⟨if i = k then g else Gb i, 0, none⟩) N (if i = k then cap else Gc i) : Value) := by
    rw [List.range_succ, List.map_append, List.map_cons, List.map_nil, if_pos rfl, if_pos rfl]
    congr 1
    refine List.map_congr_left fun i hi => ?_
    have hi := List.mem_range.1 hi
    rw [if_neg (by omega), if_neg (by omega)]
  rw [e] at h1
  obtain ⟨cur, hcur⟩ := h.outCells
  have hne : ∀ g' cap' ys, Buf W g' cap' ys → gO ≠ g' := fun g' cap' ys hb e => by
    obtain ⟨cur2, h2⟩ := hb.cells
    rw [← e, hcur] at h2
    cases h2
  have hkeep : ∀ g' cap' ys, Buf W g' cap' ys → Buf W' g' cap' ys := fun g' cap' ys hb => World.ownsRow.kept hb hgr (.inr fun e => hne g' cap' ys hb (Option.some.inj (show some g' = some gO from e)).symm)
  rcases h1.2 with ⟨h2, h3⟩ | ⟨gO', cap', cur', rfl, _⟩
  · omega
  refine ⟨gO', cap', fun i => if i = k then g else Gb i, fun i => if i = k then cap else Gc i, rfl, h1, fun i hi => ?_, fun i j hi hj e => ?_⟩
  · by_cases e : i = k
    · subst e
      simp only [if_pos]
      exact ⟨hkeep _ _ _ hrow, hg⟩
    · simp only [if_neg e]
      have := h.row i (by omega)
      exact ⟨hkeep _ _ _ this.1, this.2⟩
  · by_cases e1 : i = k
    · by_cases e2 : j = k
      · omega
      · simp only [if_pos e1, if_neg e2] at e
        exact absurd e.symm (hn j (by omega))
    · by_cases e2 : j = k
      · simp only [if_neg e1, if_pos e2] at e
        exact absurd e (hn i (by omega))
      · simp only [if_neg e1, if_neg e2] at e
        exact h.apart i j (by omega) (by omega) e
/-- the rows, and the leading columns -/
structure SoS (W : World) (B gO capO N R : Nat) (Gb Gc : Nat → Nat) (m : Nat → Nat → UInt8) (v : Value) (lead : List Nat) : Prop where
  mat : Mat W B gO capO N R Gb Gc m
  hl : W.ownsRow B 3 1 v lead.length (intsV (lead.map fun c : Nat => (c : Int)))
theorem own_kindI {W : World} {B : Nat} {v : Value} {n : Nat} {xs : List Value} (h : W.ownsRow B 3 1 v n xs) (g : Nat) (e : TypeId) (he : e ≠ 3) (hg : ∃ cur, W.heap[g]? = some (.cells cur e (0, 0))) : v.ownBlock ≠ some g := fun h0 => by
  obtain ⟨cur, hg⟩ := hg
  rcases h.2 with ⟨rfl, _⟩ | ⟨g', cap, cur', rfl, _, h2, _⟩
  · cases h0
  · have : g' = g := Option.some.inj (show some g' = some g from h0)
    rw [this, hg] at h2
    cases h2
    exact he rfl
theorem SoS.later {W W' : World} {B gO capO N R : Nat} {Gb Gc : Nat → Nat} {m : Nat → Nat → UInt8} {v : Value} {lead : List Nat} (h : SoS W B gO capO N R Gb Gc m v lead) (hb : Below W.heap.size W W') : SoS W' B gO capO N R Gb Gc m v lead :=
  ⟨h.mat.later hb, World.ownsRow.kept (row := none) h.hl ⟨hb.os, hb.tape, hb.output, hb.size, fun i hi _ => hb.block i hi⟩ (by
    rcases h.hl.2 with ⟨e, _⟩ | ⟨g, cap, cur, e, _⟩
    · exact .inl (by rw [e]; rfl)
    · exact .inr (by rw [e]; simp [Value.ownBlock]))⟩
theorem SoS.congr {W : World} {B gO capO N R : Nat} {Gb Gc : Nat → Nat} {m m' : Nat → Nat → UInt8} {v : Value} {lead : List Nat} (h : SoS W B gO capO N R Gb Gc m v lead) (he : ∀ i j, i < R → j < N → m i j = m' i j) : SoS W B gO capO N R Gb Gc m' v lead := ⟨h.mat.congr he, h.hl⟩
theorem SoS.store {W : World} {B gO capO N R : Nat} {Gb Gc : Nat → Nat} {m : Nat → Nat → UInt8} {v : Value} {lead : List Nat} (h : SoS W B gO capO N R Gb Gc m v lead) (i j : Nat) (hi : i < R) (hj : j < N) (x : UInt8) :
    SoS (W.setCell ⟨Gb i, j, none⟩ (.int .u8 (x.toNat : Int))) B gO capO N R Gb Gc (put2 m i j x) v lead ∧ Below B W (W.setCell ⟨Gb i, j, none⟩ (.int .u8 (x.toNat : Int))) := by
  have hs := h.mat.store i j hi hj x
  have hr := h.mat.row i hi
  exact ⟨⟨hs.1, World.ownsRow.kept h.hl hs.2 (.inr (own_kindI h.hl _ 5 (by decide) hr.1.cells))⟩, hs.2.below hr.2 (Nat.le_trans h.mat.lt.1 (Nat.le_of_lt h.mat.lt.2))⟩
theorem SoS.swap {W : World} {B gO capO N R : Nat} {Gb Gc : Nat → Nat} {m : Nat → Nat → UInt8} {v : Value} {lead : List Nat} (h : SoS W B gO capO N R Gb Gc m v lead) (a k : Nat) (ha : a < R) (hk : k < R) :
    SoS ((W.setCell ⟨gO, a, none⟩ (.slice (some ⟨Gb k, 0, none⟩) N (Gc k))).setCell ⟨gO, k, none⟩ (.slice (some ⟨Gb a, 0, none⟩) N (Gc a))) B gO capO N R (fun i => Gb (trn a k i)) (fun i => Gc (trn a k i)) (Gf.swp m a k) v lead ∧
      Below B W ((W.setCell ⟨gO, a, none⟩ (.slice (some ⟨Gb k, 0, none⟩) N (Gc k))).setCell ⟨gO, k, none⟩ (.slice (some ⟨Gb a, 0, none⟩) N (Gc a))) := by
  have hs := h.mat.swap a k ha hk
  exact ⟨⟨hs.1, World.ownsRow.kept h.hl hs.2 (.inr (own_kindI h.hl _ 26 (by decide) h.mat.outCells))⟩, hs.2.below h.mat.lt.1 (Nat.le_trans h.mat.lt.1 (Nat.le_of_lt h.mat.lt.2))⟩
theorem SoS.push {W W' : World} {B gO capO N R : Nat} {Gb Gc : Nat → Nat} {m : Nat → Nat → UInt8} {v v' : Value} {lead : List Nat} (h : SoS W B gO capO N R Gb Gc m v lead) (c : Nat) (hown : W'.ownsRow B 3 1 v' (lead.length + 1) (intsV ((lead.map fun c : Nat => (c : Int)) ++ [(c : Int)]))) (hgr : W.grownBy W' v.ownBlock) :
    SoS W' B gO capO N R Gb Gc m v' (lead ++ [c]) := by
  have hk : ∀ g e, e ≠ 3 → (∃ cur, W.heap[g]? = some (.cells cur e (0, 0))) → v.ownBlock ≠ some g := fun g e he hg => own_kindI h.hl g e he hg
  refine ⟨⟨World.ownsRow.kept h.mat.outer hgr (.inr fun e => hk gO 26 (by decide) h.mat.outCells e.symm), fun i hi => ⟨World.ownsRow.kept (h.mat.row i hi).1 hgr (.inr fun e => hk (Gb i) 5 (by decide) (h.mat.row i hi).1.cells e.symm), (h.mat.row i hi).2⟩, h.mat.apart⟩, ?_⟩
  rw [List.length_append, List.map_append]
  exact hown
theorem rinv_u8 (a : UInt8) (h : a ≠ 0) : ∃ y : UInt8, Gf.gm a y = 1 ∧ ∀ w, Calls Tryd.prog 68 #[.int .u8 (a.toNat : Int)] w fun e w' => e = .returned (.int .u8 (y.toNat : Int)) ∧ w' = w := by
  have hy : (UInt8.ofNat (Gf.inv a.toNat)).toNat = Gf.inv a.toNat := by
    have := Gf.inv_lt a.toNat
    rw [UInt8.toNat_ofNat']
    omega
  have h0 : a.toNat ≠ 0 := fun e => h (Gf.u8_ext e)
  refine ⟨UInt8.ofNat (Gf.inv a.toNat), Gf.u8_ext (by rw [Gf.gm_nat, hy, Gf.mul_inv _ h0 (UInt8.toNat_lt a)]; rfl), fun w => ?_⟩
  rw [hy]
  have c : ∀ w, Calls Tryd.prog 51 #[.int .u8 (a.toNat : Int), .int .i64 254] w fun e w' => e = .returned (.int .u8 (Gf.inv a.toNat : Nat)) ∧ w = w' := fun w => power_any a.toNat 254 (UInt8.toNat_lt a) (by omega) w
  have C := Lib.hid c
  clear c h0 hy
  have hal := UInt8.toNat_lt a
  go_enter Tryd.func68, Tryd.ntmps68
  go_wp2_with fail
  refine (C.out _).mono ?_; rintro e w' ⟨rfl, rfl⟩
  go_wp2_with fail
  go_ret
  exact ⟨rfl, rfl⟩
end Go.Proofs.YtoefhhkemljjdaaDoor
