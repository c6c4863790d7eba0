/- The document's way of mending a word: what 'tried' makes of a register. The document's Fix: a word is mended just if it can be. -/
import Derived.Test.YtgifbpjmblemhaaGreatDoorFq
import Derived.Test.YtgifbpjmblemhaaGreatDoorSolv
import Derived.Test.YtgifbpjmblemhaaGreatDoorLph
import Derived.OwnWalk
import Derived.BigRegion
import Derived.BigQuiet
import Derived.Test.YtgifbpjmblemhaaGreatDoorApw
namespace Go.Proofs.YtgifbpjmblemhaaGreatDoor
open Go.RowKit
set_option linter.unusedVariables false
set_option linter.unusedSimpArgs false
def rtB (n : Nat) (z : List Int) (R : List UInt8) (p : Nat) : Bool := !(decide ((p : Int) ∈ z)) && decide (evL R (Gf.gd 1 (Gf.al (n - 1 - p))) = 0)
/-- those of the first k places -/
def fnd (n : Nat) (z : List Int) (R : List UInt8) (k : Nat) : List Nat := (List.range k).filter (rtB n z R)
theorem fnd_no {n k : Nat} {z : List Int} {R : List UInt8} (h : rtB n z R k = false) : fnd n z R (k + 1) = fnd n z R k := by
  unfold fnd
  rw [List.range_succ, List.filter_append, List.filter_cons, h]
  simp
theorem fnd_yes {n k : Nat} {z : List Int} {R : List UInt8} (h : rtB n z R k = true) : fnd n z R (k + 1) = fnd n z R k ++ [k] := by
  unfold fnd
  rw [List.range_succ, List.filter_append, List.filter_cons, h]
  simp
theorem fnd_nodup (n : Nat) (z : List Int) (R : List UInt8) (k : Nat) : (fnd n z R k).Nodup := List.filter_sublist.nodup List.nodup_range
theorem fnd_le (n : Nat) (z : List Int) (R : List UInt8) (k : Nat) : (fnd n z R k).length ≤ k := by
  have := List.length_filter_le (rtB n z R) (List.range k)
  simpa [fnd] using this
theorem mem_fnd {n k p : Nat} {z : List Int} {R : List UInt8} : p ∈ fnd n z R k ↔ p < k ∧ (p : Int) ∉ z ∧ ∃ y, Gf.gm (Gf.al (n - 1 - p)) y = 1 ∧ evL R y = 0 := by
  unfold fnd rtB
  rw [List.mem_filter, List.mem_range]
  simp only [Bool.and_eq_true, Bool.not_eq_true', decide_eq_false_iff_not, decide_eq_true_eq]
  constructor
  · rintro ⟨h1, h2, h3⟩
    obtain ⟨y, hy⟩ := al_inv (n - 1 - p)
    exact ⟨h1, h2, y, hy, by rw [inv_only hy]; exact h3⟩
  · rintro ⟨h1, h2, y, hy, h3⟩
    exact ⟨h1, h2, by rw [← inv_only hy]; exact h3⟩
/-- all places to mend: the erased ones, and the roots -/
def alN (n : Nat) (z : List Int) (R : List UInt8) (k : Nat) : List Nat := z.map Int.toNat ++ fnd n z R k
def alI (n : Nat) (z : List Int) (R : List UInt8) (k : Nat) : List Int := z ++ (fnd n z R k).map fun p : Nat => (p : Int)
theorem al_len (n : Nat) (z : List Int) (R : List UInt8) (k : Nat) : (alI n z R k).length = (alN n z R k).length := by simp [alI, alN]
theorem al_ci {n k : Nat} {z : List Int} {R : List UInt8} (hok : EOk n z) (i : Nat) (hi : i < (alN n z R k).length) : ci (alI n z R k) i = (((alN n z R k).getD i 0 : Nat) : Int) := by
  have e : alI n z R k = (alN n z R k).map fun p : Nat => (p : Int) := by
    unfold alI alN
    rw [List.map_append]
    congr 1
    rw [List.map_map]
    conv => lhs; rw [← List.map_id z]
    refine List.map_congr_left fun q hq => ?_
    have := (ints_mem hok hq).1
    show q = ((q.toNat : Nat) : Int)
    omega
  unfold ci
  rw [e, List.getD_eq_getElem?_getD, List.getD_eq_getElem?_getD, List.getElem?_map, List.getElem?_eq_getElem hi]
  rfl
theorem al_all {n : Nat} {z : List Int} {R : List UInt8} (hok : EOk n z) : All n z (fnd n z R n) (alN n z R n) := by
  have hm : ∀ p, p ∈ alN n z R n ↔ ((p < n ∧ (p : Int) ∈ z) ∨ p ∈ fnd n z R n) := fun p => by
    unfold alN
    rw [List.mem_append]
    constructor
    · rintro (h | h)
      · obtain ⟨q, hq, rfl⟩ := List.mem_map.1 h
        have := ints_mem hok hq
        exact .inl ⟨by omega, by rw [Int.toNat_of_nonneg this.1]; exact hq⟩
      · exact .inr h
    · rintro (⟨_, h⟩ | h)
      · exact .inl (List.mem_map.2 ⟨(p : Int), h, by simp⟩)
      · exact .inr h
  refine ⟨List.nodup_append.2 ⟨?_, fnd_nodup _ _ _ _, fun a ha b hb e => ?_⟩, fun p hp => ?_, fun p hp => ?_⟩
  · have h1 := ints_nodup hok
    rw [List.nodup_iff_pairwise_ne, List.pairwise_map]
    rw [List.nodup_iff_pairwise_ne] at h1
    refine List.Pairwise.imp_of_mem (fun {a b} ha hb hab => ?_) h1
    have := ints_mem hok ha
    have := ints_mem hok hb
    omega
  · subst e
    obtain ⟨q, hq, rfl⟩ := List.mem_map.1 ha
    have := ints_mem hok hq
    exact (mem_fnd.1 hb).2.1 (by rw [Int.toNat_of_nonneg this.1]; exact hq)
  · rcases (hm p).1 hp with h | h
    · exact h.1
    · exact (mem_fnd.1 h).1
  · rw [hm]
    exact ⟨fun h => h.elim (fun h => .inl h.2) .inr, fun h => h.elim (fun h => .inl ⟨hp, h⟩) .inr⟩
/-- what is added at the first k places -/
def lk (P : List Nat) (x : List UInt8) (k : Nat) : List (Nat × UInt8) := (List.range k).map fun i => (P.getD i 0, co x i)
theorem lk_succ (P : List Nat) (x : List UInt8) (k : Nat) : lk P x (k + 1) = lk P x k ++ [(P.getD k 0, co x k)] := by
  unfold lk
  rw [List.range_succ, List.map_append]; rfl
theorem lk_fst (P : List Nat) (x : List UInt8) : (lk P x P.length).map (·.1) = P := by
  refine List.ext_getElem (by simp [lk]) fun i h1 h2 => ?_
  simp [lk, List.getElem?_eq_getElem h2]
theorem ls_lk (n : Nat) (P : List Nat) (x : List UInt8) (j k : Nat) : Gf.ls ((lk P x k).map fun e => (e.2, Gf.al (n - 1 - e.1))) j = Gf.sm (fun i => Gf.gm (Gf.px (Gf.al (n - 1 - P.getD i 0)) j) (co x i)) k := by
  induction k with
  | zero => rfl
  | succ k ih =>
    rw [lk_succ, List.map_append, List.map_cons, List.map_nil, Gf.ls_snoc, ih]
    show _ = Gf.sm _ k ^^^ _
    congr 1
    exact Gf.gm_comm _ _
/-- the equations: the sums of the powers are the syndromes -/
def mmT (n : Nat) (P : List Nat) (s : List UInt8) (j i : Nat) : UInt8 := if i < P.length then Gf.px (Gf.al (n - 1 - P.getD i 0)) j else co s j
theorem mmT_adds {n : Nat} {P : List Nat} {W x : List UInt8} (h : Gf.Sol (mmT n P (synL W)) 32 P.length (co x)) : Adds W n (lk P x P.length) := fun j hj => by
  rw [ls_lk]
  have h1 := h j hj
  rw [show mmT n P (synL W) j P.length = co (synL W) j from if_neg (by omega)] at h1
  rw [← h1]
  exact Gf.sm_congr fun i hi => by unfold mmT; rw [if_pos hi]
theorem mmT_some {n : Nat} {P : List Nat} {W : List UInt8} {l : List (Nat × UInt8)} (hl : l.map (·.1) = P) (ha : Adds W n l) : Gf.Sol (mmT n P (synL W)) 32 P.length (co (l.map (·.2))) := fun j hj => by
  rw [show mmT n P (synL W) j P.length = co (synL W) j from if_neg (by omega), ← ha j hj]
  have e : l = lk P (l.map (·.2)) P.length := by
    refine List.ext_getElem (by simp [lk, ← hl]) fun i h1 h2 => ?_
    have h3 : i < P.length := by rw [← hl]; simpa using h1
    simp [lk, ← hl, co, h1]
  have h1 := ls_lk n P (l.map (·.2)) j P.length
  rw [← e] at h1
  rw [h1]
  exact Gf.sm_congr fun i hi => by unfold mmT; rw [if_pos hi]
theorem append_ints {ops : Array Oper} {rest : List Oper} {o : Oper} {a : Act} {Q : Exit → Act → World → Prop} {w : World} (hgd : o.guard = none) (s x : Operand)
    (ho : o.op = .call { callee := .builtin .append, args := #[s, x], argTypes := #[25, 25] })
    (base : Nat) (v : Value) (n : Nat) (z : List Int) (hs : a.eval s = v) (hown : w.ownsRow base 3 1 v n (intsV z))
    (ad : Option Addr) (m c : Nat) (y : List Int) (hx : a.eval x = .slice ad m c) (hm : m = y.length) (hrow : RowIs w ad (intsV y) c) (hl : n + m ≤ 10000000) (hbase : base ≤ w.heap.size)
    (h : ∀ v' w', w'.ownsRow base 3 1 v' (n + m) (intsV (z ++ y)) → w.grownBy w' v.ownBlock → wpList Tryz.prog ops Q rest (a.put o.dst v') w') : wpList Tryz.prog ops Q (o :: rest) a w := by
  obtain ⟨i0, hi, hz0, hz1, hz2⟩ := info_parts info_int
  have e : intsV (z ++ y) = intsV z ++ intsV y := by simp [intsV]
  rw [e] at h
  subst hm
  cases ad with
  | none =>
    have h0 := hrow.nil rfl
    have hle := hrow.le
    simp only [intsV_length] at hle
    obtain rfl : y = [] := List.eq_nil_of_length_eq_zero (by omega)
    subst h0
    refine wpList_append_own_none hgd s x 25 ho base 3 i0 1 Tryz.underlying25 hi v n (intsV z) hs hown hx ?_
    exact h v w (by simpa [intsV] using hown) ⟨rfl, rfl, rfl, Nat.le_refl _, fun _ _ _ => rfl⟩
  | some ad =>
    refine wpList_append_own_wide w hgd s x 25 ho base 3 i0 (.int .i64 0) 1 8 Tryz.underlying25 hi hz0 hz1 hz2 rfl (by decide) v n (intsV z) hs hown ad y.length c (intsV y) hx (by simp) (hrow.adds ad rfl) (fun u hu => by
      obtain ⟨b, _, rfl⟩ := List.mem_map.1 hu
      rfl) (by unfold maxLen; omega) (by omega) hbase ?_
    intro v' w' h1 h2 _
    exact h v' w' h1 h2
def TgAt (z : List Int) (n g : Nat) (w : World) (iv : Value) (wr : World) : Prop := ∃ k : Nat, k ≤ z.length ∧ iv = .int .i64 k ∧ BRow wr g n (fun q => decide ((q : Int) ∈ z.take k)) ∧ Below w.heap.size w wr
def TfAt (z : List Int) (n : Nat) (R : List UInt8) (w : World) (v f p : Value) (wr : World) : Prop := ∃ k : Nat, k ≤ n ∧ p = .int .i64 k ∧ f = .int .i64 (fnd n z R k).length ∧ wr.ownsRow w.heap.size 3 1 v (alI n z R k).length (intsV (alI n z R k)) ∧ Below w.heap.size w wr
def TrAt (mm : Nat → Nat → UInt8) (N : Nat) (w : World) (v jv : Value) (wr : World) : Prop := ∃ k : Nat, k ≤ 32 ∧ jv = .int .i64 k ∧ Cpy wr w.heap.size N k v mm ∧ Below w.heap.size w wr
def TiAt (m : Nat → UInt8) (M : Nat) (w : World) (v iv : Value) (wr : World) : Prop := ∃ i : Nat, i ≤ M ∧ iv = .int .i64 i ∧ wr.ownsRow w.heap.size 5 1 v i (bytesV (tab m i)) ∧ Below w.heap.size w wr
def ToAt (W x : List UInt8) (P : List Nat) (g cap : Nat) (w : World) (iv : Value) (wr : World) : Prop := ∃ i : Nat, i ≤ P.length ∧ iv = .int .i64 i ∧ Buf wr g cap (putW W (lk P x i)) ∧ Below w.heap.size w wr
def TpAt (a b : List UInt8) (n : Nat) (w : World) (v i : Value) (wr : World) : Prop := ∃ k : Nat, k ≤ n ∧ i = .int .i64 k ∧ wr.ownsRow w.heap.size 3 1 v (dfL a b k).length (intsV (dfL a b k)) ∧ Below w.heap.size w wr
/-- a new row of bytes -/
def Frs (xs : List UInt8) (x : Value) (w w' : World) : Prop := ∃ g cap, x = .slice (some ⟨g, 0, none⟩) xs.length cap ∧ w.heap.size ≤ g ∧ Buf w' g cap xs
/-- a new row of numbers -/
def FrI (z : List Int) (x : Value) (w w' : World) : Prop := w'.ownsRow w.heap.size 3 1 x z.length (intsV z)
theorem own_lower {T : TypeId} {W : World} {m n k : Nat} {v : Value} {xs : List Value} (h : W.ownsRow n T 1 v k xs) (hm : m ≤ n) : W.ownsRow m T 1 v k xs :=
  ⟨h.1, h.2.imp id fun ⟨g, cap, cur, e, hg, r⟩ => ⟨g, cap, cur, e, Nat.le_trans hm hg, r⟩⟩
theorem Frs.rv {xs : List UInt8} {x : Value} {w w' : World} (h : Frs xs x w w') : RowV xs x w' := by
  obtain ⟨g, cap, e, _, hb⟩ := h
  exact ⟨_, _, e, hb.row⟩
theorem Frs.lower {xs : List UInt8} {x : Value} {w v w' : World} (h : Frs xs x v w') (hw : w.heap.size ≤ v.heap.size) : Frs xs x w w' := by
  obtain ⟨g, cap, e, hg, hb⟩ := h
  exact ⟨g, cap, e, Nat.le_trans hw hg, hb⟩
theorem FrI.iv {z : List Int} {x : Value} {w w' : World} (h : FrI z x w w') : IntsV z x w' := owns_ints h rfl
theorem FrI.lower {z : List Int} {x : Value} {w v w' : World} (h : FrI z x v w') (hw : w.heap.size ≤ v.heap.size) : FrI z x w w' := own_lower h hw
def TdTo (W R : List UInt8) (n L : Nat) (z : List Int) (w : World) (e : Ending) (w' : World) : Prop :=
  Below w.heap.size w w' ∧ (((fnd n z R n).length ≠ L ∧ e = .returned (.tuple #[.slice none 0 0, .slice none 0 0, .bool false])) ∨
    ((fnd n z R n).length = L ∧ ∃ l v1 v2, l.map (·.1) = alN n z R n ∧ Adds W n l ∧ e = .returned (.tuple #[v1, v2, .bool true]) ∧ Frs (putW W l) v1 w w' ∧ FrI (dfL (putW W l) W n) v2 w w'))
theorem take_mem {k p : Nat} {z : List Int} (hk : k < z.length) (hp : ci z k = (p : Int)) (q : Nat) : (if q = p then true else decide ((q : Int) ∈ z.take k)) = decide ((q : Int) ∈ z.take (k + 1)) := by
  have e : z.take (k + 1) = z.take k ++ [ci z k] := by
    rw [List.take_add_one, List.getElem?_eq_getElem hk]
    simp [ci, List.getD_eq_getElem?_getD, List.getElem?_eq_getElem hk]
  rw [e, hp]
  by_cases h : q = p
  · subst h
    simp
  · have h2 : ¬ (q : Int) = (p : Int) := by omega
    simp [h, h2]
/-- nothing is added at an erased place alone -/
theorem Reg.nz {W C : List UInt8} {n L : Nat} {z : List Int} {H P : List Nat} (h : Reg W C n L z H) (hP : All n z H P) (x : List UInt8) (ha : Adds W n (lk P x P.length)) (i : Nat) (hi : i < P.length) (h0 : co x i = 0) : ((P.getD i 0 : Nat) : Int) ∈ z := by
  have hc := h.chg hP _ (lk_fst P x) ha
  have hPi : P.getD i 0 ∈ P := by
    rw [List.getD_eq_getElem?_getD, List.getElem?_eq_getElem hi]
    exact List.getElem_mem hi
  rcases (hP.mem _ (hP.lt _ hPi)).1 hPi with h1 | h1
  · exact h1
  · have h2 := (hc.mem _ h1).2.1
    have h3 := putW_in (lk P x P.length) W (by rw [lk_fst]; exact hP.nd) (P.getD i 0, co x i) (List.mem_map.2 ⟨i, List.mem_range.2 hi, rfl⟩) (by rw [h.lw]; exact hP.lt _ hPi)
    rw [h0, UInt8.xor_zero] at h3
    exact absurd h3.symm h2
theorem px_pw (m j : Nat) : ((Gf.pw (Gf.al m).toNat j : Nat) : Int) = ((Gf.px (Gf.al m) j).toNat : Int) := by
  rw [Gf.px_al, Gf.al_nat, Gf.al_nat, Gf.pw_ex]
set_option maxRecDepth 100000 in
set_option maxHeartbeats 20000000 in
theorem tried_any (W R : List UInt8) (z : List Int) (n L : Nat) (o o2 o3 : Option Addr) (c c2 c3 : Nat) (w : World) (hW : RowIs w o (bytesV W) c) (hR : RowIs w o2 (bytesV R) c2) (hZ : RowIs w o3 (intsV z) c3)
    (hn : W.length = n) (h33 : 33 ≤ n) (h255 : n ≤ 255) (hok : EOk n z) (hRl : R.length ≤ 1000) (CS : Array Value) (hCS : (bytesV (synL W)).toArray = CS) (hL : L ≤ 1000) (hreg : (fnd n z R n).length = L → Reg W R n L z (fnd n z R n)) :
    Calls Tryz.prog 34 #[.slice o n c, .agg CS, .slice o2 R.length c2, .slice o3 z.length c3, .int .i64 L] w (TdTo W R n L z w) := by
  have h1 := hW.le
  have h2 := hW.cap
  have h3 := hZ.le
  have h4 := hZ.cap
  simp only [bytesV_length, intsV_length] at h1 h3
  rw [hn] at h1
  unfold maxLen at h2 h4
  have hzl := hok.2.2
  have HW := Lib.hid hW
  have HR := Lib.hid hR
  have HZ := Lib.hid hZ
  have HN := Lib.hid hn
  have HOK := Lib.hid hok
  have HREG := Lib.hid hreg
  obtain ⟨w1, hw1⟩ : ∃ w1, w.alloc (.cells CS 70) = w1 := ⟨_, rfl⟩
  have hb1 : Below w.heap.size w w1 := by rw [← hw1]; exact (Below.refl _ _).alloc (Nat.le_refl _) _
  have hS1 : RowIs w1 (some ⟨w.heap.size, 0, none⟩) (bytesV (synL W)) 32 := by
    have h5 : (synL W).length = 32 := by simp
    rw [← hw1, ← hCS, ← h5]
    exact row_cells_at (World.alloc_heap_new w (.cells (bytesV (synL W)).toArray 70)) (by unfold maxLen; omega)
  obtain ⟨w2, hw2⟩ : ∃ w2, w1.alloc (.cells (Array.replicate n (.bool false)) 4) = w2 := ⟨_, rfl⟩
  have hb2 : Below w1.heap.size w1 w2 := by rw [← hw2]; exact (Below.refl _ _).alloc (Nat.le_refl _) _
  have hg2 : BRow w2 w1.heap.size n (fun q => decide ((q : Int) ∈ z.take 0)) := by rw [← hw2]; exact (brow_new w1 n).cong fun i _ => by simp
  have hsz1 : w1.heap.size = w.heap.size + 1 := by rw [← hw1]; simp
  rw [hsz1] at hg2
  have HG2 := Lib.hid hg2
  have HB1 := Lib.hid hb1
  have HB2 := Lib.hid hb2
  have HS1 := Lib.hid hS1
  have HGL : Hid (w1.heap.size ≤ w.heap.size + 1) := Lib.hid (by omega)
  have HW1 := Lib.hid hw1
  have HW2 := Lib.hid hw2
  have hmk := make_bools4 n (by omega)
  clear hW hR hZ hn hok hreg hCS hw1 hw2 hb1 hb2 hS1 hg2 hsz1
  go_enter Tryz.func34, Tryz.ntmps34
  go_wp2_with fail
  rw [HW1.out, HW2.out]
  obtain ⟨g, hg⟩ : ∃ g, w.heap.size + 1 = g := ⟨_, rfl⟩
  rw [hg] at HG2 HGL ⊢
  clear hg
  go_loopw [16, 38] (fun _ iv wr => TgAt z n g w1 iv wr) (fun _ iv _ => z.length - (intOf iv).toNat)
  case atStart => exact ⟨0, Nat.zero_le _, rfl, HG2.out, HB2.out⟩
  case round =>
    obtain ⟨k, hk, rfl, hg, hb⟩ := hrel
    have HB := Lib.hid hb
    by_cases hlt : k < z.length
    · obtain ⟨b, off, rfl, hcell⟩ := ints_cell (HZ.out.later (Kit.step HB1.out hb)) k hlt
      have hin := HOK.out.1 k hlt
      obtain ⟨p, hp⟩ := Int.eq_ofNat_of_zero_le hin.1
      have HTM := Lib.hid (take_mem hlt hp)
      rw [hp] at hcell hin
      have hp0 : (0 : Int) ≤ (p : Int) := by omega
      have hp1 : (p : Int) < (n : Int) := hin.2
      have hpn : p < n := by omega
      have hk0 : (0 : Int) ≤ (k : Int) := by omega
      have hk1 : (k : Int) < (z.length : Int) := by omega
      have hcg := hg.cell p hpn
      have hfg := hg.frozen p
      have hst := hg.store p true
      have HG3 : Hid (BRow (wr.setCell ⟨g, p, none⟩ (.bool true)) g n (fun q => decide ((q : Int) ∈ z.take (k + 1)))) := Lib.hid (hst.1.cong fun i _ => HTM.out i)
      have HB3 : Hid (Below w1.heap.size w1 (wr.setCell ⟨g, p, none⟩ (.bool true))) := Lib.hid (hb.trans (Only.below hst.2 HGL.out hb.size))
      clear hg hb hin hp hst HTM HB
      go_wp2_with fail
      go_roundw
      case rel => exact ⟨k + 1, by omega, by go_num, HG3.out, HB3.out⟩
      case measure => simp [intOf]; omega
    · obtain rfl : k = z.length := by omega
      rename World => wA
      have HGA : Hid (BRow wA g n (fun q => decide ((q : Int) ∈ z))) := Lib.hid (hg.cong fun i _ => by rw [List.take_length])
      have hbA : Below w.heap.size w wA := Kit.step HB1.out hb
      have HSA := Lib.hid (HS1.out.later hb)
      obtain ⟨w3, hw3⟩ : ∃ w3, wA.alloc (.cells #[] 3) = w3 := ⟨_, rfl⟩
      have hb3 : Below wA.heap.size wA w3 := by rw [← hw3]; exact (Below.refl _ _).alloc (Nat.le_refl _) _
      have HO3 : Hid (w3.ownsRow wA.heap.size 3 1 (.slice (some ⟨wA.heap.size, 0, none⟩) 0 0) 0 (intsV [])) := Lib.hid (by rw [← hw3]; exact World.ownsRow_lit wA #[] 0 (Nat.le_refl _) (Nat.zero_le _) rfl)
      have HZ3 := Lib.hid (HZ.out.later (Kit.step hbA hb3))
      have HB3 := Lib.hid hb3
      have HBA := Lib.hid hbA
      have HW3 := Lib.hid hw3
      clear hg hb HG2 hbA hb3 hw3
      go_wp2_with (first | rw [HW3.out] | (at_builtin; refine append_ints rfl (.tmp 46) (.tmp 47) rfl wA.heap.size _ 0 [] rfl HO3.out o3 z.length c3 z rfl rfl HZ3.out (by omega) HB3.out.size ?_))
      intro v4 w4 hv hgr
      have HO4 : Hid (w4.ownsRow wA.heap.size 3 1 v4 (alI n z R 0).length (intsV (alI n z R 0))) := Lib.hid (by simpa [alI, fnd] using hv)
      have HB4 := Lib.hid (own_belowI HB3.out HO3.out hgr)
      clear hv hgr HO3 HB3 HZ3 HW3
      go_wp2_with fail
      go_loopw [17, 18, 19] (fun v f p wr => TfAt z n R wA v f p wr) (fun _ _ p _ => n - (intOf p).toNat)
      case atStart => exact ⟨0, Nat.zero_le _, rfl, rfl, HO4.out, HB4.out⟩
      case round =>
        clear HO4 HB4
        obtain ⟨k, hk, rfl, rfl, hv, hb⟩ := hrel
        have HV := Lib.hid hv
        have HB := Lib.hid hb
        have hfl := fnd_le n z R k
        by_cases hlt : k < n
        · have hcg := (HGA.out.later hb).cell k hlt
          have hk0 : (0 : Int) ≤ (k : Int) := by omega
          have hk1 : (k : Int) < (n : Int) := by omega
          by_cases hz : (k : Int) ∈ z
          · rw [decide_eq_true hz] at hcg
            have hno : fnd n z R (k + 1) = fnd n z R k := fnd_no (by simp [rtB, hz])
            have HF := Lib.hid hno
            have HA : Hid (alI n z R (k + 1) = alI n z R k) := Lib.hid (by unfold alI; rw [hno])
            clear hz hv hb hno
            go_wp2_with fail
            go_roundw
            case rel => exact ⟨k + 1, by omega, by go_num, by rw [HF.out], by rw [HA.out]; exact HV.out, HB.out⟩
            case measure => simp [intOf]; omega
          · rw [decide_eq_false hz] at hcg
            obtain ⟨y, hy, hinv⟩ := rinv_u8 (Gf.al (n - 1 - k)) (Gf.al_ne _)
            have hye := inv_only hy
            have HPW : Hid (∀ v, Calls Tryz.prog 44 #[.int .i64 (n : Int), .int .i64 (k : Int)] v fun e w' => e = .returned (.int .u8 ((Gf.al (n - 1 - k)).toNat : Int)) ∧ w' = v) := Lib.hid fun v => rplace_any n k hlt h255 v
            have HIV := Lib.hid hinv
            have HEV : Hid (Calls Tryz.prog 49 #[.slice o2 R.length c2, .int .u8 (y.toNat : Int)] wr fun e w' => e = .returned (.int .u8 ((evL R y).toNat : Int)) ∧ w' = wr) := Lib.hid (reval_any R y o2 c2 wr (HR.out.later (Kit.step HBA.out hb)))
            by_cases he : evL R y = 0
            · have hyes : fnd n z R (k + 1) = fnd n z R k ++ [k] := fnd_yes (by simp [rtB, hz, ← hye, he])
              have HF := Lib.hid hyes
              have HA : Hid (alI n z R k ++ [(k : Int)] = alI n z R (k + 1)) := Lib.hid (by unfold alI; rw [hyes]; simp)
              rw [he] at HEV
              obtain ⟨w5, hw5⟩ : ∃ w5, wr.alloc (.cells #[.int .i64 (k : Int)] 3) = w5 := ⟨_, rfl⟩
              have hb5 : Below wr.heap.size wr w5 := by rw [← hw5]; exact (Below.refl _ _).alloc (Nat.le_refl _) _
              have HO5 := Lib.hid (own_laterI hv hb5)
              have HC5 : Hid (w5.cell? ⟨wr.heap.size, 0, none⟩ = some (.int .i64 (k : Int))) := Lib.hid (by rw [← hw5, cell_of_row _ _ 0 _ _ _ (World.alloc_heap_new wr _)]; rfl)
              have HB5 := Lib.hid (Kit.step hb hb5)
              have HW5 := Lib.hid hw5
              have hal : (alI n z R k).length ≤ 1000 := by simp [alI]; omega
              have HAL := Lib.hid hal
              generalize Gf.al (n - 1 - k) = xk at HPW HIV
              clear hz hv hb hy hinv hye he hyes hw5 hb5 hal
              go_wp2_with fail
              refine (HPW.out _).mono ?_; rintro e w' ⟨rfl, rfl⟩
              go_wp2_with fail
              refine (HIV.out _).mono ?_; rintro e w' ⟨rfl, rfl⟩
              go_wp2_with fail
              refine HEV.out.mono ?_; rintro e w' ⟨rfl, rfl⟩
              go_wp2_with (first | rw [HW5.out] | (at_builtin; refine append_int rfl (.tmp 68) (.tmp 70) rfl wA.heap.size _ (alI n z R k).length (alI n z R k) rfl HO5.out _ (k : Int) rfl HC5.out (by have := HAL.out; omega) HB5.out.size ?_))
              intro v6 w6 hv6 hg6
              have HO6 : Hid (w6.ownsRow wA.heap.size 3 1 v6 (alI n z R (k + 1)).length (intsV (alI n z R (k + 1)))) := Lib.hid (by rw [← HA.out]; simpa using hv6)
              have HB6 := Lib.hid (own_belowI HB5.out HO5.out hg6)
              clear hv6 hg6
              go_wp2_with fail
              go_roundw
              case rel => exact ⟨k + 1, by omega, by go_num, by rw [HF.out]; simp, HO6.out, HB6.out⟩
              case measure => simp [intOf]; omega
            · have hno : fnd n z R (k + 1) = fnd n z R k := fnd_no (by simp [rtB, ← hye, he])
              have HF := Lib.hid hno
              have HA : Hid (alI n z R (k + 1) = alI n z R k) := Lib.hid (by unfold alI; rw [hno])
              have het : ¬ (evL R y).toNat = 0 := fun h => he (Gf.u8_ext h)
              have hne : ¬ ((evL R y).toNat : Int) = 0 := by omega
              have hbe : (((evL R y).toNat : Int) == 0) = false := beq_false_of_ne hne
              have hde : decide (((evL R y).toNat : Int) = 0) = false := decide_eq_false hne
              generalize Gf.al (n - 1 - k) = xk at HPW HIV
              generalize evL R y = tv at *
              clear hz hv hb hy hinv hye he hno
              go_wp2_with fail
              refine (HPW.out _).mono ?_; rintro e w' ⟨rfl, rfl⟩
              go_wp2_with fail
              refine (HIV.out _).mono ?_; rintro e w' ⟨rfl, rfl⟩
              go_wp2_with fail
              refine HEV.out.mono ?_; rintro e w' ⟨rfl, rfl⟩
              go_wp2_with fail
              go_roundw
              case rel => exact ⟨k + 1, by omega, by go_num, by rw [HF.out], by rw [HA.out]; exact HV.out, HB.out⟩
              case measure => simp [intOf]; omega
        · obtain rfl : n = k := by omega
          rename World => wB
          have hHB := Kit.step HBA.out hb
          obtain ⟨oA, cA, rfl, hAL⟩ := owns_ints hv rfl
          by_cases hF : (fnd n z R n).length = L
          case neg =>
            have hne : ¬ ((fnd n z R n).length : Int) = (L : Int) := by omega
            have hnb : (((fnd n z R n).length : Int) == (L : Int)) = false := beq_false_of_ne hne
            have hnd : decide (((fnd n z R n).length : Int) = (L : Int)) = false := decide_eq_false hne
            have hnt : (((fnd n z R n).length : Int) != (L : Int)) = true := by rw [bne_iff_ne]; exact hne
            have HHB := Lib.hid hHB
            have HFN := Lib.hid hF
            clear hv hb hAL hF hHB
            go_wp2_with fail
            go_ret3
            exact ⟨HHB.out, .inl ⟨HFN.out, rfl⟩⟩
          rw [hF]
          have hreg := HREG.out hF
          have hall := al_all (R := R) HOK.out
          obtain ⟨P, hP⟩ : ∃ P, alN n z R n = P := ⟨_, rfl⟩
          have hlen := al_len n z R n
          have hPm := hreg.all_len hall
          have hci := al_ci (R := R) (k := n) HOK.out
          rw [hP] at hall hlen hci hPm
          rw [hlen] at ⊢
          obtain ⟨I, hI⟩ : ∃ I, alI n z R n = I := ⟨_, rfl⟩
          rw [hI] at hAL hci hlen
          have hPl : P.length ≤ 64 := by have := hreg.few; omega
          have hPn : ∀ i, i < P.length → P.getD i 0 < n := fun i hi => by
            refine hall.lt _ ?_
            rw [List.getD_eq_getElem?_getD, List.getElem?_eq_getElem hi]
            exact List.getElem_mem hi
          obtain ⟨M, hM⟩ : ∃ M, P.length = M := ⟨_, rfl⟩
          obtain ⟨N, hN⟩ : ∃ N, M + 1 = N := ⟨_, rfl⟩
          have HALL := Lib.hid hall
          have HRG := Lib.hid hreg
          have HFE := Lib.hid hF
          have HPE := Lib.hid hP
          have HCI : Hid (∀ i, i < M → ci I i = ((P.getD i 0 : Nat) : Int)) := Lib.hid (by rw [← hM]; exact hci)
          have HPN : Hid (∀ i, i < M → P.getD i 0 < n) := Lib.hid (by rw [← hM]; exact hPn)
          have HIL : Hid (I.length = M) := Lib.hid (by rw [hlen, hM])
          rw [hM] at hPl ⊢
          have HPL := Lib.hid hM
          have HNM := Lib.hid hN
          have hN1 : N ≤ 65 := by omega
          have HHB := Lib.hid hHB
          have HAL : Hid (RowIs wB oA (intsV I) cA) := Lib.hid hAL
          have hcA := hAL.le
          have hcA2 := hAL.cap
          simp only [intsV_length] at hcA
          unfold maxLen at hcA2
          rw [HIL.out] at hcA
          have HGB := Lib.hid (HGA.out.later hb)
          have HSB : Hid (RowIs wB (some ⟨w.heap.size, 0, none⟩) (bytesV (synL W)) 32) := Lib.hid (HSA.out.later hb)
          have hdn : (((L : Int)) != (L : Int)) = false := by simp
          have hdd : decide ((L : Int) = (L : Int)) = true := decide_eq_true rfl
          clear hv hb hAL hF hHB hreg hall hP hlen hPm hci hI hPn hM hN
          obtain ⟨i0, hi, hz0, hz1, hz2⟩ := info_parts info_u8
          have HC0 := Lib.hid (Cpy.start wB wB.heap.size N (mmT n P (synL W)) (Nat.le_refl _))
          have HB0 : Hid (Below wB.heap.size wB (wB.alloc (.cells #[] 24))) := Lib.hid ((Below.refl _ _).alloc (Nat.le_refl _) _)
          go_wp2_with fail
          go_loopw [20, 21] (fun v jv wr => TrAt (mmT n P (synL W)) N wB v jv wr) (fun _ jv _ => 32 - (intOf jv).toNat)
          case atStart => exact ⟨0, Nat.zero_le _, rfl, HC0.out, HB0.out⟩
          case round =>
            clear HC0 HB0
            obtain ⟨k, hk, rfl, ⟨gO, capO, Gb, Gc, rfl, hmat⟩, hb⟩ := hrel
            have HM := Lib.hid hmat
            have HB := Lib.hid hb
            have hcO := hmat.cap
            unfold maxLen at hcO
            have hcO1 := hcO.1
            have hcO2 := hcO.2
            clear hmat hcO
            by_cases hlt : k < 32
            · have hd1 : decide ((k : Int) < 32) = true := decide_eq_true (by omega)
              have hk0 : (0 : Int) ≤ (k : Int) := by omega
              have hk1 : (k : Int) < 32 := by omega
              obtain ⟨w6, hw6⟩ : ∃ w6, wr.alloc (.cells #[] 5) = w6 := ⟨_, rfl⟩
              have hb6 : Below wr.heap.size wr w6 := by rw [← hw6]; exact (Below.refl _ _).alloc (Nat.le_refl _) _
              have HO6 : Hid (w6.ownsRow wr.heap.size 5 1 (.slice (some ⟨wr.heap.size, 0, none⟩) 0 0) 0 (bytesV (tab (mmT n P (synL W) k) 0))) := Lib.hid (by rw [← hw6]; exact World.ownsRow_lit wr #[] 0 (Nat.le_refl _) (Nat.zero_le _) rfl)
              have HB6 := Lib.hid hb6
              have HW6 := Lib.hid hw6
              clear hb hb6 hw6
              go_wp2_with (rw [HW6.out])
              go_loopw [22, 24, 85] (fun v _ iv w7 => TiAt (mmT n P (synL W) k) M wr v iv w7) (fun _ _ iv _ => M - (intOf iv).toNat)
              case atStart => exact ⟨0, Nat.zero_le _, rfl, HO6.out, HB6.out⟩
              case round =>
                rename World => W7
                clear HO6 HB6 HW6
                obtain ⟨i, hiM, rfl, hv, hb7⟩ := hrel
                have HV := Lib.hid hv
                have HB7 := Lib.hid hb7
                have hBB := Kit.step HB.out hb7
                by_cases hil : i < M
                · obtain ⟨b, off, rfl, hcell⟩ := ints_cell (HAL.out.later hBB) i (by rw [HIL.out]; exact hil)
                  obtain ⟨p, hp⟩ : ∃ p, P.getD i 0 = p := ⟨_, rfl⟩
                  have hpn := HPN.out i hil
                  rw [HCI.out i hil, hp] at hcell
                  rw [hp] at hpn
                  have hi0 : (0 : Int) ≤ (i : Int) := by omega
                  have hi1 : (i : Int) < (M : Int) := by omega
                  have HPW : Hid (∀ v, Calls Tryz.prog 44 #[.int .i64 (n : Int), .int .i64 (p : Int)] v fun e w' => e = .returned (.int .u8 ((Gf.al (n - 1 - p)).toNat : Int)) ∧ w' = v) := Lib.hid fun v => rplace_any n p hpn h255 v
                  obtain ⟨x, hx⟩ : ∃ x, mmT n P (synL W) k i = x := ⟨_, rfl⟩
                  have hpx : Gf.px (Gf.al (n - 1 - p)) k = x := by
                    rw [← hx]
                    unfold mmT
                    rw [if_pos (by have := HPL.out; omega), hp]
                  have HP2 : Hid (∀ v, Calls Tryz.prog 51 #[.int .u8 ((Gf.al (n - 1 - p)).toNat : Int), .int .i64 (k : Int)] v fun e w' => e = .returned (.int .u8 (x.toNat : Int)) ∧ v = w') := Lib.hid fun v => by
                    have := power_any (Gf.al (n - 1 - p)).toNat k (UInt8.toNat_lt _) (by omega) v
                    rw [px_pw, hpx] at this
                    exact this
                  have HTS : Hid (tab (mmT n P (synL W) k) i ++ [x] = tab (mmT n P (synL W) k) (i + 1)) := Lib.hid (by
                    rw [← hx]
                    unfold tab
                    rw [List.range_succ, List.map_append]
                    rfl)
                  obtain ⟨w8, hw8⟩ : ∃ w8, W7.alloc (.cells #[.int .u8 (x.toNat : Int)] 5) = w8 := ⟨_, rfl⟩
                  have hb8 : Below W7.heap.size W7 w8 := by rw [← hw8]; exact (Below.refl _ _).alloc (Nat.le_refl _) _
                  have HV8 : Hid (w8.ownsRow wr.heap.size 5 1 _ i (bytesV (tab (mmT n P (synL W) k) i))) := Lib.hid (by rw [← hw8]; exact World.ownsRow.alloc hv _)
                  have HR8 : Hid (RowIs w8 (some ⟨W7.heap.size, 0, none⟩) (bytesV [x]) 1) := Lib.hid (by rw [← hw8]; exact row_cells (World.alloc_heap_new _ _) (by unfold maxLen; simp))
                  have HB8 := Lib.hid (Kit.step hb7 hb8)
                  have HW8 := Lib.hid hw8
                  generalize Gf.al (n - 1 - p) = xk at *
                  clear hv hb7 hBB hp hpn hx hpx hw8 hb8 hil
                  go_wp2_with fail
                  refine (HPW.out _).mono ?_; rintro e w' ⟨rfl, rfl⟩
                  go_wp2_with fail
                  refine (HP2.out _).mono ?_; rintro e w' ⟨rfl, rfl⟩
                  go_wp2_with (first | rw [HW8.out] | (at_builtin; refine append_row rfl (.tmp 89) (.tmp 95) rfl wr.heap.size _ i (tab (mmT n P (synL W) k) i) rfl HV8.out _ 1 1 [x] rfl rfl HR8.out (by omega) HB8.out.size ?_))
                  intro v9 w9 hv9 hg9
                  rw [HTS.out] at hv9
                  have HV9 := Lib.hid hv9
                  have HB9 := Lib.hid (own_below (n := 0) HB8.out HV8.out hg9)
                  clear hv9 hg9
                  go_wp2_with fail
                  go_roundw
                  case rel => exact ⟨i + 1, by omega, by go_num, HV9.out, HB9.out⟩
                  case measure => simp [intOf]; omega
                · obtain rfl : i = M := by omega
                  obtain ⟨b, off, hso, hblt, hcell⟩ := (HSB.out.later hBB).cells (by simp)
                  cases hso
                  have hcs : W7.cell? ⟨w.heap.size, k, none⟩ = some (.int .u8 ((co (synL W) k).toNat : Int)) := by
                    have := hcell k _ (bytesV_get (synL W) k (by simp; omega))
                    rwa [Nat.zero_add] at this
                  obtain ⟨x, hx⟩ : ∃ x, co (synL W) k = x := ⟨_, rfl⟩
                  rw [hx] at hcs
                  have HTS : Hid (tab (mmT n P (synL W) k) i ++ [x] = tab (mmT n P (synL W) k) N) := Lib.hid (by
                    rw [← hx, ← HNM.out]
                    unfold tab
                    rw [List.range_succ, List.map_append]
                    congr 1
                    show _ = [mmT n P (synL W) k i]
                    unfold mmT
                    rw [if_neg (by have := HPL.out; omega)])
                  obtain ⟨w8, hw8⟩ : ∃ w8, W7.alloc (.cells #[.int .u8 (x.toNat : Int)] 5) = w8 := ⟨_, rfl⟩
                  have hb8 : Below W7.heap.size W7 w8 := by rw [← hw8]; exact (Below.refl _ _).alloc (Nat.le_refl _) _
                  have HV8 : Hid (w8.ownsRow wr.heap.size 5 1 _ i (bytesV (tab (mmT n P (synL W) k) i))) := Lib.hid (by rw [← hw8]; exact World.ownsRow.alloc hv _)
                  have HR8 : Hid (RowIs w8 (some ⟨W7.heap.size, 0, none⟩) (bytesV [x]) 1) := Lib.hid (by rw [← hw8]; exact row_cells (World.alloc_heap_new _ _) (by unfold maxLen; simp))
                  have HB8 := Lib.hid (Kit.step hb7 hb8)
                  have HW8 := Lib.hid hw8
                  clear hv hb7 hBB hx hw8 hb8 hil hcell hblt
                  go_wp2_with (first | rw [HW8.out] | (at_builtin; refine append_row rfl (.tmp 99) (.tmp 103) rfl wr.heap.size _ i (tab (mmT n P (synL W) k) i) rfl HV8.out _ 1 1 [x] rfl rfl HR8.out (by omega) HB8.out.size ?_))
                  intro v9 w9 hv9 hg9
                  rw [HTS.out, HNM.out] at hv9
                  have hb9 := own_below (n := 0) HB8.out HV8.out hg9
                  obtain ⟨gR, cR, rfl, hgR, hbR⟩ := own_buf hv9 (by have := HNM.out; omega) (by simp)
                  rw [tab_length]
                  obtain ⟨w10, hw10⟩ : ∃ w10, w9.alloc (.cells #[.slice (some ⟨gR, 0, none⟩) N cR] 24) = w10 := ⟨_, rfl⟩
                  have hb10 : Below w9.heap.size w9 w10 := by rw [← hw10]; exact (Below.refl _ _).alloc (Nat.le_refl _) _
                  have hc10 : w10.cell? ⟨w9.heap.size, 0, none⟩ = some (.slice (some ⟨gR, 0, none⟩) N cR) := by
                    rw [← hw10]
                    exact cell_of_row _ _ 0 _ _ _ (World.alloc_heap_new w9 _)
                  have HM10 := Lib.hid ((HM.out.later hb9).later hb10)
                  have HBR := Lib.hid (hbR.later hb10)
                  have HBX := Lib.hid (Kit.step (Kit.step HB.out hb9) hb10)
                  have HC10 := Lib.hid hc10
                  have HW10 := Lib.hid hw10
                  have HGR : Hid (wB.heap.size ≤ gR) := Lib.hid (by have := HB.out.size; omega)
                  have HGN : Hid (∀ i, i < k → Gb i ≠ gR) := Lib.hid fun i hi e => by
                    have := (HM.out.row i hi).1.lt
                    omega
                  clear hv9 hg9 hb9 hgR hbR hw10 hb10 hc10 hcs HV8 HR8 HB8 HW8
                  go_wp2_with (first | rw [HW10.out] | (at_builtin; refine append_hdr rfl (.tmp 98) (.tmp 105) rfl wB.heap.size _ k _ rfl HM10.out.outer w9.heap.size (some ⟨gR, 0, none⟩) N cR rfl HC10.out (by omega) HBX.out.size ?_))
                  intro v11 w11 hv hgr
                  have HC11 : Hid (Cpy w11 wB.heap.size N (k + 1) v11 (mmT n P (synL W))) := Lib.hid (Cpy.add HM10.out gR cR HGR.out HBR.out HGN.out hv hgr)
                  have HB11 : Hid (Below wB.heap.size wB w11) := Lib.hid (HBX.out.grown hgr HBX.out.size fun k e => (World.ownsRow.lt HM10.out.outer k e).1)
                  clear hv hgr HM10 HBR HBX HC10 HW10
                  go_wp2_with fail
                  go_roundw
                  case rel => exact ⟨k + 1, by omega, by go_num, HC11.out, HB11.out⟩
                  case measure => simp [intOf]; omega
            · obtain rfl : k = 32 := by omega
              have hd1 : decide ((32 : Int) < 32) = false := by decide
              have hsv := solve_of (mmT n P (synL W)) 32 M N gO capO wr HNM.out.symm HM.out.rin (by omega) (by omega) hcO1 (by omega)
              have HSV := Lib.hid hsv
              clear hsv hlt hb
              go_wp2_with fail
              refine HSV.out.mono ?_; rintro e w5 ⟨hb5, ⟨x, v, hx1, hx2, rfl, hx3⟩ | ⟨hno, rfl⟩⟩
              case inr =>
                obtain ⟨l, hl1, hl2⟩ := HRG.out.adds HALL.out
                exact absurd (mmT_some hl1 hl2) (by rw [HPL.out]; exact hno _)
              rw [← HPL.out] at hx2
              have hadds := mmT_adds (W := W) hx2
              obtain ⟨ov, cv, rfl, hx3⟩ := hx3
              have HXR := Lib.hid hx3
              have HXL := Lib.hid hx1
              have HADD := Lib.hid hadds
              have HNZ : Hid (∀ i, i < M → co x i = 0 → ((P.getD i 0 : Nat) : Int) ∈ z) := Lib.hid fun i hi h0 => HRG.out.nz HALL.out x hadds i (by rw [HPL.out]; exact hi) h0
              have HB5 := Lib.hid (Kit.step HB.out hb5)
              have hxle := hx3.le
              have hxcap := hx3.cap
              simp only [bytesV_length] at hxle
              unfold maxLen at hxcap
              rw [hx1] at hxle ⊢
              obtain ⟨w6, hw6⟩ : ∃ w6, w5.alloc (.cells #[] 5) = w6 := ⟨_, rfl⟩
              have hb6 : Below w5.heap.size w5 w6 := by rw [← hw6]; exact (Below.refl _ _).alloc (Nat.le_refl _) _
              have HO6 : Hid (w6.ownsRow w5.heap.size 5 1 (.slice (some ⟨w5.heap.size, 0, none⟩) 0 0) 0 (bytesV [])) := Lib.hid (by rw [← hw6]; exact World.ownsRow_lit w5 #[] 0 (Nat.le_refl _) (Nat.zero_le _) rfl)
              have HWR6 := Lib.hid (HW.out.later (Kit.step (Kit.step HHB.out HB5.out) hb6))
              have HB6 := Lib.hid hb6
              have HW6 := Lib.hid hw6
              clear hb5 hx1 hx2 hx3 hadds hb6 hw6 HSV
              go_wp2_with (first | rw [HW6.out] | (at_builtin; refine append_row rfl (.tmp 116) (.tmp 117) rfl w5.heap.size _ 0 [] rfl HO6.out o n c W rfl HN.out.symm HWR6.out (by omega) HB6.out.size ?_))
              intro v7 w7 hv7 hg7
              have hb7 := own_below (n := 0) HB6.out HO6.out hg7
              have hv7' : w7.ownsRow w5.heap.size 5 1 v7 n (bytesV W) := by simpa using hv7
              obtain ⟨g2, cap2, rfl, hg2, hbu⟩ := own_buf hv7' (by omega) HN.out.symm
              rw [HN.out]
              have hca := hbu.le
              rw [HN.out] at hca
              have hca1 := hca.1
              have hca2 := hca.2
              unfold maxLen at hca2
              have HB7 := Lib.hid hb7
              have HG2 := Lib.hid hg2
              have HBU : Hid (Buf w7 g2 cap2 (putW W (lk P x 0))) := Lib.hid hbu
              have HGE := Lib.hid (HGB.out.later (Kit.step HB5.out hb7))
              have HXE := Lib.hid (HXR.out.later hb7)
              have HAE := Lib.hid (HAL.out.later (Kit.step HB5.out hb7))
              have HWE := Lib.hid (HW.out.later (Kit.step (Kit.step HHB.out HB5.out) hb7))
              have HBE := Lib.hid (Kit.step (Kit.step HHB.out HB5.out) hb7)
              clear hv7 hv7' hg7 hb7 hg2 hbu hca HO6 HWR6 HB6 HW6
              go_wp2_with fail
              go_loopw [28, 29, 121] (fun _ _ iv wq => ToAt W x P g2 cap2 w5 iv wq) (fun _ _ iv _ => M - (intOf iv).toNat)
              case atStart => exact ⟨0, Nat.zero_le _, rfl, HBU.out, HB7.out⟩
              case round =>
                rename World => wq
                clear HBU HGE HXE HAE HWE HBE HB7
                obtain ⟨i, hiM, rfl, hbu, hbq⟩ := hrel
                rw [HPL.out] at hiM
                have hBB := Kit.step HB5.out hbq
                by_cases hil : i < M
                · obtain ⟨b, off, rfl, hcell⟩ := ints_cell (HAL.out.later hBB) i (by rw [HIL.out]; exact hil)
                  obtain ⟨p, hp⟩ : ∃ p, P.getD i 0 = p := ⟨_, rfl⟩
                  have hpn := HPN.out i hil
                  rw [HCI.out i hil, hp] at hcell
                  rw [hp] at hpn
                  have hi0 : (0 : Int) ≤ (i : Int) := by omega
                  have hi1 : (i : Int) < (M : Int) := by omega
                  have hp0 : (0 : Int) ≤ (p : Int) := by omega
                  have hp1 : (p : Int) < (n : Int) := by omega
                  obtain ⟨bx, ox, rfl, hbx, hcx⟩ := (HXR.out.later hbq).cells (by simp [HXL.out]; omega)
                  have hcx1 : wq.cell? ⟨bx, ox + i, none⟩ = some (.int .u8 ((co x i).toNat : Int)) := hcx i _ (bytesV_get x i (by rw [HXL.out]; exact hil))
                  obtain ⟨Y, hY⟩ : ∃ Y, putW W (lk P x i) = Y := ⟨_, rfl⟩
                  rw [hY] at hbu
                  have hYl : Y.length = n := by rw [← hY, putW_length, HN.out]
                  have hlk : Y.set p (co Y p ^^^ co x i) = putW W (lk P x (i + 1)) := by rw [lk_succ, putW_snoc, hY, hp]
                  have hnz := HNZ.out i hil
                  rw [hp] at hnz
                  have hcp := hbu.cell p (by rw [hYl]; exact hpn)
                  have hfp := hbu.frozen p
                  have hst := hbu.store p (co Y p ^^^ co x i)
                  rw [hlk] at hst
                  have hgo := (HGB.out.later hBB)
                  have hx := u8c (co Y p) (co x i)
                  obtain ⟨xx, hxx⟩ : ∃ xx, co Y p ^^^ co x i = xx := ⟨_, rfl⟩
                  obtain ⟨y1, hy1⟩ : ∃ y1, co Y p = y1 := ⟨_, rfl⟩
                  obtain ⟨y2, hy2⟩ : ∃ y2, co x i = y2 := ⟨_, rfl⟩
                  rw [hxx] at hst hx
                  rw [hy1] at hx hcp
                  rw [hy2] at hx hcx1 hnz
                  have hy1l := UInt8.toNat_lt y1
                  have hy2l := UInt8.toNat_lt y2
                  have hxxl := UInt8.toNat_lt xx
                  have HST := Lib.hid hst
                  have HBQ := Lib.hid hbq
                  have HNZ1 := Lib.hid hnz
                  have HGO := Lib.hid hgo
                  have HPN1 := Lib.hid hpn
                  obtain ⟨cu, hcu⟩ := hbu.cells
                  have HNG : Hid (g ≠ g2) := Lib.hid fun e => by
                    have h2 : wq.heap[g]? = _ := hgo
                    rw [e, hcu] at h2
                    injection h2 with h2
                    injection h2 with _ h2 _
                    exact absurd h2 (by decide)
                  have HCX : Hid (RowIs wq (some ⟨bx, ox, none⟩) (bytesV x) cv) := Lib.hid (HXR.out.later hbq)
                  have HXG : Hid (bx ≠ g2) := Lib.hid (by
                    have h1 := (HXR.out.cells (by simp [HXL.out]; omega))
                    obtain ⟨b', o', e', hlt', _⟩ := h1
                    cases e'
                    have := HG2.out
                    omega)
                  clear hbu hbq hBB hcx hst hgo hcu hY hYl hlk hnz hxx hy1 hy2 hp hil hbx hpn
                  go_wp2_with fail
                  go_region
                  obtain ⟨w9, hw9⟩ : ∃ w9, (wq.setCell ⟨g2, p, none⟩ (.int .u8 (xx.toNat : Int))).drew = w9 := ⟨_, rfl⟩
                  have hb9 : Below (wq.setCell ⟨g2, p, none⟩ (.int .u8 (xx.toNat : Int))).heap.size (wq.setCell ⟨g2, p, none⟩ (.int .u8 (xx.toNat : Int))) w9 := by rw [← hw9]; exact Kit.dn' _ 1
                  have HBU9 := Lib.hid (HST.out.1.later hb9)
                  have hgo9 := (HGO.out.only HST.out.2 HNG.out).later hb9
                  have hcg9 := hgo9.cell p HPN1.out
                  have hcx9 : w9.cell? ⟨bx, ox + i, none⟩ = some (.int .u8 (y2.toNat : Int)) := by
                    have h1 : (wq.setCell ⟨g2, p, none⟩ (.int .u8 (xx.toNat : Int))).cell? ⟨bx, ox + i, none⟩ = some (.int .u8 (y2.toNat : Int)) := Only.cell HST.out.2 HXG.out hcx1
                    rw [← hw9]
                    exact h1
                  have HB9 := Lib.hid (Kit.step (HBQ.out.trans (Only.below HST.out.2 HG2.out HBQ.out.size)) hb9)
                  rw [hw9]
                  clear hw9 hb9 hgo9 hcp hfp hcx1
                  by_cases hy0 : y2 = 0
                  · rw [decide_eq_true (HNZ1.out hy0)] at hcg9
                    rw [hy0] at hcx9 ⊢
                    clear hy0
                    go_wp2_with fail
                    go_roundw
                    case rel => exact ⟨i + 1, by rw [HPL.out]; omega, by go_num, HBU9.out, HB9.out⟩
                    case measure => simp [intOf]; omega
                  · have hyn : ¬ (y2.toNat : Int) = 0 := fun h => hy0 (UInt8.toNat_inj.1 (by simpa using h))
                    have hye : ((y2.toNat : Int) == 0) = false := beq_false_of_ne hyn
                    have hyd : decide ((y2.toNat : Int) = 0) = false := decide_eq_false hyn
                    clear hy0 hcg9
                    go_wp2_with fail
                    go_roundw
                    case rel => exact ⟨i + 1, by rw [HPL.out]; omega, by go_num, HBU9.out, HB9.out⟩
                    case measure => simp [intOf]; omega
                · obtain rfl : i = M := by omega
                  obtain ⟨V, hV⟩ : ∃ V, putW W (lk P x P.length) = V := ⟨_, rfl⟩
                  have hVl : V.length = n := by rw [← hV, putW_length, HN.out]
                  rw [← HPL.out, hV] at hbu
                  have HVE := Lib.hid hV
                  have HVL := Lib.hid hVl
                  have HBU := Lib.hid hbu
                  have HBQ := Lib.hid (Kit.step (Kit.step HHB.out HB5.out) hbq)
                  have HO0 : Hid ((wq.alloc (.cells #[] 3)).ownsRow wq.heap.size 3 1 (.slice (some ⟨wq.heap.size, 0, none⟩) 0 0) 0 (intsV [])) := Lib.hid (World.ownsRow_lit wq #[] 0 (Nat.le_refl _) (Nat.zero_le _) rfl)
                  have HB0' : Hid (Below wq.heap.size wq (wq.alloc (.cells #[] 3))) := Lib.hid ((Below.refl _ _).alloc (Nat.le_refl _) _)
                  clear hbu hbq hBB hV hVl
                  go_wp2_with fail
                  go_loopw [30, 31] (fun v iv w3 => TpAt V W n wq v iv w3) (fun _ iv _ => n - (intOf iv).toNat)
                  case atStart => exact ⟨0, Nat.zero_le _, rfl, HO0.out, HB0'.out⟩
                  case round =>
                    rename World => W3
                    clear HO0 HB0'
                    obtain ⟨k, hk, rfl, hv, hb3⟩ := hrel
                    have HV := Lib.hid hv
                    have HB3 := Lib.hid hb3
                    have hlen := dfL_length V W k
                    by_cases hkn : k < n
                    · obtain ⟨b1, off1, e1, hb1, hcell⟩ := (HBU.out.row.later hb3).cells (by simp [HVL.out]; omega)
                      cases e1
                      have hc1 : W3.cell? ⟨g2, k, none⟩ = some (.int .u8 ((co V k).toNat : Int)) := by
                        have := hcell k _ (bytesV_get V k (by rw [HVL.out]; exact hkn))
                        rwa [Nat.zero_add] at this
                      obtain ⟨b2, off2, rfl, hb2, hcell2⟩ := (HW.out.later (Kit.step HBQ.out hb3)).cells (by simp [HN.out]; omega)
                      have hc2 : W3.cell? ⟨b2, off2 + k, none⟩ = some (.int .u8 ((co W k).toNat : Int)) := hcell2 k _ (bytesV_get W k (by rw [HN.out]; exact hkn))
                      have hk0 : (0 : Int) ≤ (k : Int) := by omega
                      have hk1 : (k : Int) < (n : Int) := by omega
                      have hxl := UInt8.toNat_lt (co V k)
                      have hyl := UInt8.toNat_lt (co W k)
                      clear hcell hcell2 hv hb3 hb1 hb2
                      by_cases he : co V k = co W k
                      · have HD : Hid (dfL V W (k + 1) = dfL V W k) := Lib.hid (if_pos he)
                        rw [← he] at hc2
                        generalize co V k = xv at *
                        have hnt : ((xv.toNat : Int) != (xv.toNat : Int)) = false := by simp
                        clear he
                        go_wp2_with fail
                        go_quiet (fail)
                        go_wp2_with fail
                        go_roundw
                        case rel => exact ⟨k + 1, by omega, by go_num, by rw [HD.out]; exact HV.out, HB3.out.trans ⟨rfl, rfl, rfl, Nat.le_refl _, fun _ _ => rfl⟩⟩
                        case measure => simp [intOf]; omega
                      · have HD : Hid (dfL V W k ++ [(k : Int)] = dfL V W (k + 1)) := Lib.hid (if_neg he).symm
                        have hne : ¬ (co V k).toNat = (co W k).toNat := fun e => he (Gf.u8_ext e)
                        generalize co V k = xv at *
                        generalize co W k = yv at *
                        have hnb : ((xv.toNat : Int) == (yv.toNat : Int)) = false := beq_false_of_ne (by omega)
                        have hnd : decide ((xv.toNat : Int) = (yv.toNat : Int)) = false := decide_eq_false (by omega)
                        have hnt : ((xv.toNat : Int) != (yv.toNat : Int)) = true := by rw [bne_iff_ne]; omega
                        have HLE := Lib.hid hlen
                        have HE : Hid (∀ n, ((W3.drewN n).alloc (.cells (#[.int .i64 (k : Int)]) 3)).ownsRow wq.heap.size 3 1 _ (dfL V W k).length (intsV (dfL V W k))) := Lib.hid fun n => World.ownsRow.alloc (show (W3.drewN n).ownsRow wq.heap.size 3 1 _ (dfL V W k).length (intsV (dfL V W k)) from HV.out) _
                        have HBX : Hid (∀ n, Below wq.heap.size wq ((W3.drewN n).alloc (.cells (#[.int .i64 (k : Int)]) 3))) := Lib.hid fun n => (Kit.dn HB3.out n).alloc HB3.out.size _
                        have HCE : Hid (∀ n, ((W3.drewN n).alloc (.cells (#[.int .i64 (k : Int)]) 3)).cell? ⟨W3.heap.size, 0, none⟩ = some (.int .i64 (k : Int))) := Lib.hid fun n => cell_of_row _ _ 0 _ _ _ (show ((W3.drewN n).alloc (.cells (#[.int .i64 (k : Int)]) 3)).heap[W3.heap.size]? = _ from World.alloc_heap_new (W3.drewN n) _)
                        clear he hne hlen
                        go_wp2_with fail
                        go_quiet (fail)
                        rename_i nq
                        go_wp2_with (at_builtin; refine append_int rfl (.tmp 166) (.tmp 168) rfl wq.heap.size _ (dfL V W k).length (dfL V W k) rfl (HE.out nq) _ (k : Int) rfl (HCE.out nq) (by have := HLE.out; omega) (HBX.out nq).size ?_)
                        intro v' w8 hv hg
                        have hv2 : w8.ownsRow wq.heap.size 3 1 v' (dfL V W (k + 1)).length (intsV (dfL V W (k + 1))) := by
                          rw [← HD.out]
                          simpa using hv
                        have HV2 := Lib.hid hv2
                        have HB8 := Lib.hid (own_belowI (HBX.out nq) (HE.out nq) hg)
                        clear hv hg hv2
                        go_wp2_with fail
                        go_roundw
                        case rel => exact ⟨k + 1, by omega, by go_num, HV2.out, HB8.out⟩
                        case measure => simp [intOf]; omega
                    · obtain rfl : n = k := by omega
                      have HR : Hid (FrI (dfL V W n) _ w W3) := Lib.hid (own_lower hv HBQ.out.size)
                      have HRV : Hid (Frs V (.slice (some ⟨g2, 0, none⟩) n cap2) w W3) := Lib.hid ⟨g2, cap2, by rw [HVL.out], Nat.le_trans (Kit.step HHB.out HB5.out).size HG2.out, HBU.out.later hb3⟩
                      have HBF := Lib.hid (Kit.step HBQ.out hb3)
                      clear hv hb3
                      go_wp2_with fail
                      go_ret3
                      refine ⟨HBF.out, .inr ⟨HFE.out, lk P x P.length, .slice (some ⟨g2, 0, none⟩) n cap2, _, by rw [lk_fst, HPE.out], HADD.out, rfl, ?_, ?_⟩⟩
                      · rw [HVE.out]
                        exact HRV.out
                      · rw [HVE.out]
                        exact HR.out
end Go.Proofs.YtgifbpjmblemhaaGreatDoor
namespace Go.Proofs.YtgifbpjmblemhaaGreatDoor
open Go.RowKit
set_option linter.unusedVariables false
set_option linter.unusedSimpArgs false
theorem results_tmp4 {fn : Func} {t u v x : Tmp} (h : fn.results = #[.tmp t, .tmp u, .tmp v, .tmp x]) (tmps : Array Value) (P : Program) (w : World) :
    (results fn tmps).run P w = .ok (.tuple #[tmps.getD t undef, tmps.getD u undef, tmps.getD v undef, tmps.getD x undef]) w := by
  simp [results, h]
def bad_r (k : Nat) : Ending := .returned (.tuple #[.slice none 0 0, .slice none 0 0, .int .i64 0, .int .i64 (k : Int)])
def RxTo (W : List UInt8) (n : Nat) (z : List Int) (w : World) (e : Ending) (w' : World) : Prop :=
  Below w.heap.size w w' ∧ (((∀ v H, ¬ Chg v W n z H) ∧ e = bad_r 17) ∨ ∃ v H x1 x2, Chg v W n z H ∧ e = .returned (.tuple #[x1, x2, .int .i64 (H.length : Int), .int .i64 0]) ∧ RowV v x1 w' ∧ IntsV (dfL v W n) x2 w')
def RxS (W : List UInt8) (n : Nat) (z : List Int) (w : World) (e : Ending) (w' : World) : Prop :=
  Below w.heap.size w w' ∧ (((∀ v H, ¬ Chg v W n z H) ∧ e = bad_r 17) ∨ ∃ v H x1 x2, Chg v W n z H ∧ e = .returned (.tuple #[x1, x2, .int .i64 (H.length : Int), .int .i64 0]) ∧ Frs v x1 w w' ∧ FrI (dfL v W n) x2 w w')
theorem least_of (P : Nat → Prop) (k : Nat) (h : P k) : ∃ L, P L ∧ L ≤ k ∧ ∀ M, P M → L ≤ M := by
  induction k using Nat.strongRecOn with
  | ind k ih =>
    by_cases h2 : ∃ M, M < k ∧ P M
    · obtain ⟨M, h3, h4⟩ := h2
      obtain ⟨L, h5, h6, h7⟩ := ih M h3 h4
      exact ⟨L, h5, by omega, h7⟩
    · exact ⟨k, h, Nat.le_refl _, fun M hM => by
        by_cases h3 : M < k
        · exact absurd ⟨M, h3, hM⟩ h2
        · omega⟩
theorem run_least (s : Nat → UInt8) (n : Nat) : ∃ L c, Gf.Run s n c L ∧ Gf.Least s n L ∧ L ≤ n := by
  obtain ⟨L, ⟨c, hc⟩, hL, hm⟩ := least_of (fun L => ∃ c, Gf.Run s n c L) n ⟨co [1], rfl, fun i h1 h2 => by omega⟩
  exact ⟨L, c, hc, fun d M h => hm M ⟨d, h⟩, hL⟩
/-- a solution of the equations is a register -/
theorem rf_of {R x : List UInt8} {L : Nat} (hx : x.length = L) (hs : Gf.Sol (Gf.regM (co R) L) (R.length - L) L (co x)) (hl : Gf.Least (co R) R.length L) (hL : L ≤ R.length) : RF R (1 :: x) L := by
  have e : co (1 :: x) = Gf.regC (co x) := funext fun j => by
    unfold Gf.regC
    cases j with
    | zero => rfl
    | succ j => rw [if_neg (by omega), Nat.add_sub_cancel]; simp [co]
  refine ⟨?_, hl, hL, by simp [hx]⟩
  rw [e]
  exact (Gf.sol_run (co R) R.length L (co x)).1 hs
def DxAt (L m : Nat) (w0 : World) (tv : Value) (wr : World) : Prop := ∃ t : Nat, t ≤ L ∧ 2 * t ≤ m + 2 ∧ tv = .int .i64 t ∧ Below w0.heap.size w0 wr
theorem rfix_bad (n cz a m : Nat) (z : List Int) (A : Nat → Addr) (o oz : Option Addr) (c : Nat) (w : World) (hZ : RowIs w oz (intsV z) cz) (ha : a + 1 = m)
    (hB : ∀ (v : World) (o : Option Addr) (c : Nat), RowIs v o (intsV z) c → Calls Tryz.prog 30 #[.int .i64 (n : Int), .slice o z.length c] v fun e w' => e = .returned (.tuple #[.slice none 0 0, .int .i64 (m : Int)]) ∧ Below v.heap.size v w') :
    Calls Tryz.prog 19 #[.slice o n c, .slice oz z.length cz] w fun e w' => e = bad_r m ∧ Below w.heap.size w w' := by
  have HB := Lib.hid (hB w oz cz hZ)
  have hm0 : ((m : Int) == 0) = false := beq_false_of_ne (by omega)
  have hm1 : ((m : Int) != 0) = true := by rw [bne_iff_ne]; omega
  have hm2 : ¬ ((m : Int) = 0) := by omega
  clear hB ha hZ
  go_enter Tryz.func19, Tryz.ntmps19
  go_wp2_with fail
  refine HB.out.mono ?_; rintro e w1 ⟨rfl, hb⟩
  have HB1 := Lib.hid hb
  clear hb HB
  go_wp2_with fail
  refine bodyPost_ret (results_tmp4 rfl _ _ _) rfl ?_
  exact ⟨rfl, HB1.out⟩
set_option maxRecDepth 100000 in
set_option maxHeartbeats 2000000 in
theorem rfix_own (W : List UInt8) (z : List Int) (n c cz : Nat) (o oz : Option Addr) (w : World) (hW : RowIs w o (bytesV W) c) (hZ : RowIs w oz (intsV z) cz) (hn : W.length = n) (hG : ErGood n z)
    (Z : Array Value) (hZs : (bytesV zsyn).toArray = Z) (CS : Array Value) (hCS : (bytesV (synL W)).toArray = CS) :
    Calls Tryz.prog 19 #[.slice o n c, .slice oz z.length cz] w (RxS W n z w) := by
  have h33 := hG.lo
  have h255 := hG.hi
  have hok := hG.ok
  have hz32 := hok.2.2
  have HER := Lib.hid (hG.ref w oz cz hZ)
  have HW := Lib.hid hW
  have HZ := Lib.hid hZ
  have HN := Lib.hid hn
  have HOK := Lib.hid hok
  have h1 := hW.le
  have h2 := hW.cap
  have h3 := hZ.le
  have h4 := hZ.cap
  simp only [bytesV_length, intsV_length] at h1 h3
  rw [hn] at h1
  unfold maxLen at h2 h4
  have hzs := zero_syn
  rw [hZs] at hzs
  have hz1 := one_cell (synL W)
  rw [hCS] at hz1
  have HZ1 := Lib.hid hz1
  have hz2 := syn_size (ys := synL W) (by simp [synL])
  rw [hCS] at hz2
  have HZ2 := Lib.hid hz2
  have HZC : Hid (Z.size = CS.size) := Lib.hid (by rw [← hZs, ← hCS]; simp [zsyn, synL])
  have HCS := Lib.hid hCS
  have HLEN := Lib.hid (loc_len n z)
  have HTR := Lib.hid (loc_tr n z)
  have HRL0 := for_len (synL W) n z
  have hno : ∀ L c, Gf.Least (co (forL (synL W) (Gf.locL (xsL n z)))) (forL (synL W) (Gf.locL (xsL n z))).length L → Gf.Run (co (forL (synL W) (Gf.locL (xsL n z)))) (forL (synL W) (Gf.locL (xsL n z))).length c L → L ≤ (forL (synL W) (Gf.locL (xsL n z))).length → 32 < 2 * L + z.length → ∀ v H, ¬ Chg v W n z H := fun L c hl hr hle hb v H h => by
    have hx := rf_of (x := tab (fun j => c (j + 1)) L) (by simp) (by
      have h5 := Gf.run_sol hr
      intro i hi
      rw [← h5 i hi]
      exact Gf.sm_congr fun j hj => by rw [co_tab _ _ _ hj]) hl hle
    have h6 := (h.reg hx).1
    have := h.few
    omega
  have HNO := Lib.hid hno
  clear hW hZ hn hok hG hZs hCS hz1 hz2 hno
  go_enter Tryz.func19, Tryz.ntmps19
  go_wp2_with fail
  refine HER.out.mono ?_; rintro e w1 ⟨x1, rfl, hx1, hb1⟩
  obtain ⟨oG, cG, rfl, hx1⟩ := hx1
  have HB1 := Lib.hid hb1
  have HG1 := Lib.hid hx1
  have hrs := rsyn_any W o c w1 (HW.out.later hb1)
  rw [HCS.out, HN.out] at hrs
  have HRS := Lib.hid hrs
  obtain ⟨G, hGe⟩ : ∃ G, Gf.locL (xsL n z) = G := ⟨_, rfl⟩
  rw [hGe] at HLEN HTR HRL0 HNO HG1 ⊢
  have HGE := Lib.hid hGe
  clear hb1 hx1 hrs HER hGe
  go_wp2_with fail
  refine HRS.out.mono ?_; rintro e w2 ⟨rfl, hb2⟩
  have HB2 := Lib.hid (Kit.step HB1.out hb2)
  have HG2 := Lib.hid (HG1.out.later hb2)
  have HGa : Hid ((w2.alloc (.cells Z 70)).heap[w2.heap.size]? = some (.cells Z 70 (0, 0))) := Lib.hid (World.alloc_heap_new _ _)
  obtain ⟨w3, hw3⟩ : ∃ w3, (w2.alloc (.cells Z 70)).setRow w2.heap.size CS = w3 := ⟨_, rfl⟩
  have hb3 : Below w2.heap.size w2 w3 := by rw [← hw3]; exact ((Below.refl _ _).alloc (Nat.le_refl _) _).trans (below_setRow (Nat.le_refl _))
  have hs3 : w3.heap[w2.heap.size]? = some (.cells CS 70 (0, 0)) := by rw [← hw3]; exact setRow_heap _ _ _ _ _ _ HGa.out
  have HS3 := Lib.hid hs3
  have HB3 := Lib.hid (Kit.step HB2.out hb3)
  have HG3 := Lib.hid (HG2.out.later hb3)
  have HW3 := Lib.hid hw3
  have HFO := Lib.hid (rfor_any (synL W) G oG cG w3 (by simp [synL]) HG3.out (by rw [HLEN.out]; omega) (by rw [HTR.out, HLEN.out]; omega) (by rw [HTR.out, HLEN.out]; omega) CS HCS.out)
  obtain ⟨R, hR⟩ : ∃ R, forL (synL W) G = R := ⟨_, rfl⟩
  rw [hR] at HFO HRL0 HNO
  have HRE := Lib.hid hR
  clear hb2 hb3 hw3 hs3 hR HRS
  go_wp2_with (first | (refine wpList_store_row rfl 70 (.tmp 10) (.tmp 28) rfl w2.heap.size CS rfl rfl 70 Z HGa.out HZ2.out HZC.out HZ1.out ?_; rw [HW3.out]) | refine wpList_load_row rfl 70 (.tmp 10) rfl w2.heap.size rfl 70 CS (0, 0) _ HS3.out syn_under rfl HZ2.out ?_)
  refine HFO.out.mono ?_; rintro e w4 ⟨x4, rfl, hx4, hb4⟩
  obtain ⟨oR, cR, rfl, hx4⟩ := hx4
  obtain ⟨gS, hgS⟩ : ∃ gS, w2.heap.size = gS := ⟨_, rfl⟩
  have hs4 : w4.heap[w2.heap.size]? = some (.cells CS 70 (0, 0)) := by rw [hb4.block _ (Array.getElem?_eq_some_iff.1 HS3.out).1]; exact HS3.out
  rw [hgS] at hs4 ⊢
  have HS4 := Lib.hid hs4
  have HB4 := Lib.hid (Kit.step HB3.out hb4)
  have HR4 := Lib.hid hx4
  have hrle := hx4.le
  have hrcap := hx4.cap
  simp only [bytesV_length] at hrle
  unfold maxLen at hrcap
  obtain ⟨L, cc, hrun, hlea, hLle⟩ := run_least (co R) R.length
  obtain ⟨m, hm⟩ : ∃ m, R.length = m := ⟨_, rfl⟩
  have HRUN := Lib.hid hrun
  have HLEA := Lib.hid hlea
  have HML := Lib.hid hm
  have hm32 : m = 32 - z.length := by rw [← hm]; exact HRL0
  have hmz1 : m + z.length ≤ 32 := by omega
  have hmz2 : 32 ≤ m + z.length := by omega
  rw [hm] at hLle hrle ⊢
  clear hb4 hs4 hx4 hrun hlea hm hgS HS3 HRL0 HFO hm32
  go_wp2_with fail
  go_loopw [12, 13, 14] (fun tv _ _ wr => DxAt L m w4 tv wr) (fun tv _ _ _ => 32 - (intOf tv).toNat)
  case atStart => exact ⟨0, Nat.zero_le _, by omega, rfl, Below.refl _ _⟩
  case round =>
    obtain ⟨t, htL, htm, rfl, hb⟩ := hrel
    have HB := Lib.hid hb
    have hw2t : IntKind.i64.wrap (2 * (t : Int)) = 2 * (t : Int) := by rw [IntKind.wrap_i64]; omega
    by_cases h2t : 2 * t ≤ m
    · have hd : decide (2 * (t : Int) ≤ (m : Int)) = true := decide_eq_true (by omega)
      have hd' : decide (2 * t ≤ m) = true := decide_eq_true h2t
      have hrg := register_any R t oR cR wr (HR4.out.later hb) (by rw [HML.out]; omega) (by rw [HML.out]; omega)
      rw [HML.out] at hrg
      have HRG := Lib.hid hrg
      clear hrg hb
      go_wp2_with fail
      refine HRG.out.mono ?_; rintro e w5 ⟨hb5, ⟨x, v, hx1, hx2, rfl, hx3⟩ | ⟨hns, rfl⟩⟩
      case inr =>
        have htl : t < L := by
          by_cases e : t = L
          · subst e
            have h5 := HRUN.out
            rw [HML.out] at h5
            exact absurd (Gf.run_sol h5) (hns _)
          · omega
        have HB5 := Lib.hid (Kit.step HB.out hb5)
        clear hb5 hns HRG
        go_wp2_with fail
        go_roundw
        case rel => exact ⟨t + 1, by omega, by omega, by go_num, HB5.out⟩
        case measure => simp [intOf]; omega
      obtain rfl : t = L := by
        have h5 := HLEA.out _ _ ((Gf.sol_run (co R) R.length t (co x)).1 (by rw [HML.out]; exact hx2))
        omega
      have hrf := rf_of (R := R) hx1 (by rw [HML.out]; exact hx2) HLEA.out (by rw [HML.out]; omega)
      have hrf2 : RF (forL (synL W) (Gf.locL (xsL n z))) (1 :: x) t := by rw [HGE.out, HRE.out]; exact hrf
      have HRF := Lib.hid hrf2
      have HB5 := Lib.hid (Kit.step HB.out hb5)
      have HX1 := Lib.hid hx1
      obtain ⟨o5, c5, rfl, hx3⟩ := hx3
      have HX3 := Lib.hid hx3
      have hxle := hx3.le
      have hxcap := hx3.cap
      simp only [bytesV_length] at hxle
      unfold maxLen at hxcap
      rw [hx1] at hxle ⊢
      have hreg : (fnd n z (1 :: x) n).length = t → Reg W (1 :: x) n t z (fnd n z (1 :: x) n) := fun h => ⟨HN.out, h255, HOK.out, hrf2, by omega, fnd_nodup _ _ _ _, h, fun p hp => mem_fnd.1 hp⟩
      have HREG := Lib.hid hreg
      have HTD : Hid (∀ v oB cB, Below w5.heap.size w5 v → RowIs v oB (bytesV (1 :: x)) cB → Calls Tryz.prog 34 #[.slice o n c, .agg CS, .slice oB (t + 1) cB, .slice oz z.length cz, .int .i64 t] v (TdTo W (1 :: x) n t z v)) := Lib.hid fun v oB cB hb hr => by
        have := tried_any W (1 :: x) z n t o oB oz c cB cz v (HW.out.later (Kit.step (Kit.step HB4.out HB5.out) hb)) hr (HZ.out.later (Kit.step (Kit.step HB4.out HB5.out) hb)) HN.out h33 h255 HOK.out (by simp; omega) CS HCS.out (by omega) hreg
        rwa [show (1 :: x).length = t + 1 by simp [hx1]] at this
      have HNOC : Hid ((fnd n z (1 :: x) n).length ≠ t → ∀ v H, ¬ Chg v W n z H) := Lib.hid fun h v H hc => h (hc.count hrf2 (fnd_nodup _ _ _ _) fun p => mem_fnd)
      have HSX : Hid (w5.heap[gS]? = some (.cells CS 70 (0, 0))) := Lib.hid (by rw [(HB5.out).block _ (Array.getElem?_eq_some_iff.1 HS4.out).1]; exact HS4.out)
      have HBL : Hid (∀ k, Below w5.heap.size w5 (w5.drewN k)) := Lib.hid fun k => Kit.dn' _ k
      have hb6 : Below w5.heap.size w5 (w5.drew.alloc (.cells #[.int .u8 1] 5)) := (Kit.dn (Below.refl _ _) 1).alloc (Nat.le_refl _) _
      have HB6 := Lib.hid hb6
      have HO6 : Hid ((w5.drew.alloc (.cells #[.int .u8 1] 5)).ownsRow w5.heap.size 5 1 (.slice (some ⟨w5.heap.size, 0, none⟩) 1 1) 1 (bytesV [1])) := Lib.hid (World.ownsRow_lit w5.drew (bytesV [1]).toArray 1 (Nat.le_refl _) (by unfold maxLen; simp) rfl)
      have HX6 := Lib.hid (hx3.later hb6)
      have HSD : Hid (w5.drew.heap[gS]? = some (.cells CS 70 (0, 0))) := Lib.hid HSX.out
      have HS6 : Hid ((w5.drew.alloc (.cells #[.int .u8 1] 5)).heap[gS]? = some (.cells CS 70 (0, 0))) := Lib.hid (by rw [hb6.block _ (Array.getElem?_eq_some_iff.1 HSX.out).1]; exact HSX.out)
      have HRN := Lib.hid hrf
      clear hb5 hx1 hx2 hx3 hrf hrf2 hreg hb6 HRG
      go_wp2_with fail
      refine wp_region_any (by kernel_rfl) ?_
      change wpAny _ _ _ _ _ _ _ (World.drew _)
      refine wpAny_take (i := 0) (v := ?va1) rfl (by kernel_rfl) (by kernel_rfl) (by kernel_rfl) (fun _ _ _ h => h) (Or.inl ⟨by rfl, ?ha1⟩) ?ra1
      case ha1 => (intro w; (go_simp <;> with_reducible rfl))
      refine wpAny_take (i := 3) (v := ?va2) rfl (by kernel_rfl) (by kernel_rfl) (by kernel_rfl) (fun _ _ _ h => h) (Or.inl ⟨by rfl, ?ha2⟩) ?ra2
      case ha2 => (intro w; (go_simp <;> with_reducible rfl))
      refine wpAny_take (i := 5) (v := ?va3) rfl (by kernel_rfl) (by kernel_rfl) (by kernel_rfl) (fun _ _ _ h => h) (Or.inl ⟨by rfl, ?ha3⟩) ?ra3
      case ha3 => (intro w; (go_simp <;> with_reducible rfl))
      refine wpAny_take (i := 6) (v := ?va4) rfl (by kernel_rfl) (by kernel_rfl) (by kernel_rfl) (fun _ _ _ h => h) (Or.inl ⟨by rfl, ?ha4⟩) ?ra4
      case ha4 => (intro w; (go_simp <;> with_reducible rfl))
      refine wpAny_ready (rs := [1, 2]) (by kernel_rfl) (by simp) ?_
      refine AllReady.cons rfl (fun K hK => ?_) (AllReady.cons rfl (fun K hK => ?_) AllReady.nil)
      · rw [if_pos (by rfl)]
        refine wp_load_row 70 (.tmp 10) rfl gS rfl 70 CS (0, 0) _ HSD.out syn_under rfl HZ2.out (hK _ _ ?_)
        clear hK K
        refine wpAny_ready (rs := [2]) (by kernel_rfl) (by simp) ?_
        refine AllReady.cons rfl (fun K hK => ?_) AllReady.nil
        go_simp
        refine hK _ _ ?_
        clear hK K
        refine wpAny_ready (rs := [4]) (by kernel_rfl) (by simp) ?_
        refine AllReady.cons rfl (fun K hK => ?_) AllReady.nil
        rw [if_pos (by rfl)]
        refine wp_append_row (.tmp 50) (.tmp 51) rfl w5.heap.size _ 1 [1] rfl HO6.out o5 t c5 x rfl HX1.out.symm HX6.out (by omega) HB6.out.size fun v7 w7 hv7 hg7 => hK _ _ ?_
        clear hK K
        have hb7 := own_below (n := 0) HB6.out HO6.out hg7
        obtain ⟨g7, cap7, rfl, hg7', hbu7⟩ := own_buf hv7 (by omega) (by simp [HX1.out] <;> omega)
        have hs7 : w7.heap[gS]? = some (.cells CS 70 (0, 0)) := by rw [hb7.block _ (Array.getElem?_eq_some_iff.1 HSX.out).1]; exact HSX.out
        have HS7 := Lib.hid hs7
        have HB7 := Lib.hid hb7
        have hlen7 : ([1] ++ x : List UInt8).length = t + 1 := by simp [HX1.out] <;> omega
        have HT7 := Lib.hid (HTD.out w7 (some ⟨g7, 0, none⟩) cap7 hb7 hbu7.row)
        rw [hlen7]
        clear hv7 hg7 hb7 hg7' hbu7 hs7 hlen7
        refine wpAny_ready (rs := [7]) (by kernel_rfl) (by simp) ?_
        refine AllReady.cons rfl (fun K hK => ?_) AllReady.nil
        go_simp
        refine HT7.out.mono ?_; rintro e w8 ⟨hb8, ⟨hf, rfl⟩ | ⟨hf, l, v1, v2, hl1, hl2, rfl, hr1, hi2⟩⟩
        · have HNC := Lib.hid (HNOC.out hf)
          have HB8 := Lib.hid (Kit.step (Kit.step (Kit.step HB4.out HB5.out) HB7.out) hb8)
          clear hb8 hf HT7
          refine hK _ _ ?_
          clear hK K
          refine wpAny_ready (rs := [8]) (by kernel_rfl) (by simp) ?_
          refine AllReady.cons rfl (fun K hK => ?_) AllReady.nil
          go_simp
          refine hK _ _ ?_
          clear hK K
          refine wpAny_take (i := 9) (v := ?va5) rfl (by kernel_rfl) (by kernel_rfl) (by kernel_rfl) (fun _ _ _ h => h) (Or.inl ⟨by rfl, ?ha5⟩) ?ra5
          case ha5 => (intro w; (go_simp <;> with_reducible rfl))
          refine wpAny_take (i := 10) (v := ?va6) rfl (by kernel_rfl) (by kernel_rfl) (by kernel_rfl) (fun _ _ _ h => h) (Or.inl ⟨by rfl, ?ha6⟩) ?ra6
          case ha6 => (intro w; (go_simp <;> with_reducible rfl))
          refine wpAny_take (i := 11) (v := ?va7) rfl (by kernel_rfl) (by kernel_rfl) (by kernel_rfl) (fun _ _ _ h => h) (Or.inl ⟨by rfl, ?ha7⟩) ?ra7
          case ha7 => (intro w; (go_simp <;> with_reducible rfl))
          refine wpAny_ready (rs := [12]) (by kernel_rfl) (by simp) ?_
          refine AllReady.cons rfl (fun K hK => ?_) AllReady.nil
          go_simp
          refine hK _ _ ?_
          clear hK K
          refine wpAny_ready (rs := [13]) (by kernel_rfl) (by simp) ?_
          refine AllReady.cons rfl (fun K hK => ?_) AllReady.nil
          go_simp
          refine hK _ _ ?_
          clear hK K
          refine wpAny_ready (rs := [14]) (by kernel_rfl) (by simp) ?_
          refine AllReady.cons rfl (fun K hK => ?_) AllReady.nil
          go_simp
          refine hK _ _ ?_
          clear hK K
          refine wpAny_done (by kernel_rfl) ?_ _
          go_wp2_with fail
          refine bodyPost_ret (results_tmp4 rfl _ _ _) rfl ?_
          exact ⟨HB8.out, .inl ⟨HNC.out, rfl⟩⟩
        · have hreg := HREG.out hf
          have hch := hreg.chg (al_all (R := 1 :: x) HOK.out) l hl1 hl2
          have HCH := Lib.hid hch
          have HF := Lib.hid hf
          have HB8 := Lib.hid (Kit.step (Kit.step (Kit.step HB4.out HB5.out) HB7.out) hb8)
          have HR1 := Lib.hid (hr1.lower (Kit.step (Kit.step HB4.out HB5.out) HB7.out).size)
          have HI2 := Lib.hid (hi2.lower (Kit.step (Kit.step HB4.out HB5.out) HB7.out).size)
          obtain ⟨oa, ca, rfl, _⟩ := hr1.rv
          obtain ⟨ob, cb, rfl, _⟩ := hi2.iv
          clear hb8 hf HT7 hreg hch hl1 hl2
          refine hK _ _ ?_
          clear hK K
          refine wpAny_ready (rs := [8]) (by kernel_rfl) (by simp) ?_
          refine AllReady.cons rfl (fun K hK => ?_) AllReady.nil
          go_simp
          refine hK _ _ ?_
          clear hK K
          refine wpAny_take (i := 9) (v := ?va8) rfl (by kernel_rfl) (by kernel_rfl) (by kernel_rfl) (fun _ _ _ h => h) (Or.inl ⟨by rfl, ?ha8⟩) ?ra8
          case ha8 => (intro w; (go_simp <;> with_reducible rfl))
          refine wpAny_take (i := 10) (v := ?va9) rfl (by kernel_rfl) (by kernel_rfl) (by kernel_rfl) (fun _ _ _ h => h) (Or.inl ⟨by rfl, ?ha9⟩) ?ra9
          case ha9 => (intro w; (go_simp <;> with_reducible rfl))
          refine wpAny_take (i := 11) (v := ?va10) rfl (by kernel_rfl) (by kernel_rfl) (by kernel_rfl) (fun _ _ _ h => h) (Or.inl ⟨by rfl, ?ha10⟩) ?ra10
          case ha10 => (intro w; (go_simp <;> with_reducible rfl))
          refine wpAny_ready (rs := [12]) (by kernel_rfl) (by simp) ?_
          refine AllReady.cons rfl (fun K hK => ?_) AllReady.nil
          go_simp
          refine hK _ _ ?_
          clear hK K
          refine wpAny_ready (rs := [13]) (by kernel_rfl) (by simp) ?_
          refine AllReady.cons rfl (fun K hK => ?_) AllReady.nil
          go_simp
          refine hK _ _ ?_
          clear hK K
          refine wpAny_ready (rs := [14]) (by kernel_rfl) (by simp) ?_
          refine AllReady.cons rfl (fun K hK => ?_) AllReady.nil
          go_simp
          refine hK _ _ ?_
          clear hK K
          refine wpAny_done (by kernel_rfl) ?_ _
          go_wp2_with fail
          refine bodyPost_ret (results_tmp4 rfl _ _ _) rfl ?_
          refine ⟨HB8.out, .inr ⟨putW W l, fnd n z (1 :: x) n, .slice oa (putW W l).length ca, .slice ob (dfL (putW W l) W n).length cb, HCH.out, ?_, HR1.out, HI2.out⟩⟩
          rw [HF.out, putW_length]
          rfl
      · go_simp
        refine hK _ _ ?_
        clear hK K
        refine wpAny_ready (rs := [1, 4]) (by kernel_rfl) (by simp) ?_
        refine AllReady.cons rfl (fun K hK => ?_) (AllReady.cons rfl (fun K hK => ?_) AllReady.nil)
        · rw [if_pos (by rfl)]
          refine wp_load_row 70 (.tmp 10) rfl gS rfl 70 CS (0, 0) _ HS6.out syn_under rfl HZ2.out (hK _ _ ?_)
          clear hK K
          refine wpAny_ready (rs := [4]) (by kernel_rfl) (by simp) ?_
          refine AllReady.cons rfl (fun K hK => ?_) AllReady.nil
          rw [if_pos (by rfl)]
          refine wp_append_row (.tmp 50) (.tmp 51) rfl w5.heap.size _ 1 [1] rfl HO6.out o5 t c5 x rfl HX1.out.symm HX6.out (by omega) HB6.out.size fun v7 w7 hv7 hg7 => hK _ _ ?_
          clear hK K
          have hb7 := own_below (n := 0) HB6.out HO6.out hg7
          obtain ⟨g7, cap7, rfl, hg7', hbu7⟩ := own_buf hv7 (by omega) (by simp [HX1.out] <;> omega)
          have hs7 : w7.heap[gS]? = some (.cells CS 70 (0, 0)) := by rw [hb7.block _ (Array.getElem?_eq_some_iff.1 HSX.out).1]; exact HSX.out
          have HS7 := Lib.hid hs7
          have HB7 := Lib.hid hb7
          have hlen7 : ([1] ++ x : List UInt8).length = t + 1 := by simp [HX1.out] <;> omega
          have HT7 := Lib.hid (HTD.out w7 (some ⟨g7, 0, none⟩) cap7 hb7 hbu7.row)
          rw [hlen7]
          clear hv7 hg7 hb7 hg7' hbu7 hs7 hlen7
          refine wpAny_ready (rs := [7]) (by kernel_rfl) (by simp) ?_
          refine AllReady.cons rfl (fun K hK => ?_) AllReady.nil
          go_simp
          refine HT7.out.mono ?_; rintro e w8 ⟨hb8, ⟨hf, rfl⟩ | ⟨hf, l, v1, v2, hl1, hl2, rfl, hr1, hi2⟩⟩
          · have HNC := Lib.hid (HNOC.out hf)
            have HB8 := Lib.hid (Kit.step (Kit.step (Kit.step HB4.out HB5.out) HB7.out) hb8)
            clear hb8 hf HT7
            refine hK _ _ ?_
            clear hK K
            refine wpAny_ready (rs := [8]) (by kernel_rfl) (by simp) ?_
            refine AllReady.cons rfl (fun K hK => ?_) AllReady.nil
            go_simp
            refine hK _ _ ?_
            clear hK K
            refine wpAny_take (i := 9) (v := ?va11) rfl (by kernel_rfl) (by kernel_rfl) (by kernel_rfl) (fun _ _ _ h => h) (Or.inl ⟨by rfl, ?ha11⟩) ?ra11
            case ha11 => (intro w; (go_simp <;> with_reducible rfl))
            refine wpAny_take (i := 10) (v := ?va12) rfl (by kernel_rfl) (by kernel_rfl) (by kernel_rfl) (fun _ _ _ h => h) (Or.inl ⟨by rfl, ?ha12⟩) ?ra12
            case ha12 => (intro w; (go_simp <;> with_reducible rfl))
            refine wpAny_take (i := 11) (v := ?va13) rfl (by kernel_rfl) (by kernel_rfl) (by kernel_rfl) (fun _ _ _ h => h) (Or.inl ⟨by rfl, ?ha13⟩) ?ra13
            case ha13 => (intro w; (go_simp <;> with_reducible rfl))
            refine wpAny_ready (rs := [12]) (by kernel_rfl) (by simp) ?_
            refine AllReady.cons rfl (fun K hK => ?_) AllReady.nil
            go_simp
            refine hK _ _ ?_
            clear hK K
            refine wpAny_ready (rs := [13]) (by kernel_rfl) (by simp) ?_
            refine AllReady.cons rfl (fun K hK => ?_) AllReady.nil
            go_simp
            refine hK _ _ ?_
            clear hK K
            refine wpAny_ready (rs := [14]) (by kernel_rfl) (by simp) ?_
            refine AllReady.cons rfl (fun K hK => ?_) AllReady.nil
            go_simp
            refine hK _ _ ?_
            clear hK K
            refine wpAny_done (by kernel_rfl) ?_ _
            go_wp2_with fail
            refine bodyPost_ret (results_tmp4 rfl _ _ _) rfl ?_
            exact ⟨HB8.out, .inl ⟨HNC.out, rfl⟩⟩
          · have hreg := HREG.out hf
            have hch := hreg.chg (al_all (R := 1 :: x) HOK.out) l hl1 hl2
            have HCH := Lib.hid hch
            have HF := Lib.hid hf
            have HB8 := Lib.hid (Kit.step (Kit.step (Kit.step HB4.out HB5.out) HB7.out) hb8)
            have HR1 := Lib.hid (hr1.lower (Kit.step (Kit.step HB4.out HB5.out) HB7.out).size)
            have HI2 := Lib.hid (hi2.lower (Kit.step (Kit.step HB4.out HB5.out) HB7.out).size)
            obtain ⟨oa, ca, rfl, _⟩ := hr1.rv
            obtain ⟨ob, cb, rfl, _⟩ := hi2.iv
            clear hb8 hf HT7 hreg hch hl1 hl2
            refine hK _ _ ?_
            clear hK K
            refine wpAny_ready (rs := [8]) (by kernel_rfl) (by simp) ?_
            refine AllReady.cons rfl (fun K hK => ?_) AllReady.nil
            go_simp
            refine hK _ _ ?_
            clear hK K
            refine wpAny_take (i := 9) (v := ?va14) rfl (by kernel_rfl) (by kernel_rfl) (by kernel_rfl) (fun _ _ _ h => h) (Or.inl ⟨by rfl, ?ha14⟩) ?ra14
            case ha14 => (intro w; (go_simp <;> with_reducible rfl))
            refine wpAny_take (i := 10) (v := ?va15) rfl (by kernel_rfl) (by kernel_rfl) (by kernel_rfl) (fun _ _ _ h => h) (Or.inl ⟨by rfl, ?ha15⟩) ?ra15
            case ha15 => (intro w; (go_simp <;> with_reducible rfl))
            refine wpAny_take (i := 11) (v := ?va16) rfl (by kernel_rfl) (by kernel_rfl) (by kernel_rfl) (fun _ _ _ h => h) (Or.inl ⟨by rfl, ?ha16⟩) ?ra16
            case ha16 => (intro w; (go_simp <;> with_reducible rfl))
            refine wpAny_ready (rs := [12]) (by kernel_rfl) (by simp) ?_
            refine AllReady.cons rfl (fun K hK => ?_) AllReady.nil
            go_simp
            refine hK _ _ ?_
            clear hK K
            refine wpAny_ready (rs := [13]) (by kernel_rfl) (by simp) ?_
            refine AllReady.cons rfl (fun K hK => ?_) AllReady.nil
            go_simp
            refine hK _ _ ?_
            clear hK K
            refine wpAny_ready (rs := [14]) (by kernel_rfl) (by simp) ?_
            refine AllReady.cons rfl (fun K hK => ?_) AllReady.nil
            go_simp
            refine hK _ _ ?_
            clear hK K
            refine wpAny_done (by kernel_rfl) ?_ _
            go_wp2_with fail
            refine bodyPost_ret (results_tmp4 rfl _ _ _) rfl ?_
            refine ⟨HB8.out, .inr ⟨putW W l, fnd n z (1 :: x) n, .slice oa (putW W l).length ca, .slice ob (dfL (putW W l) W n).length cb, HCH.out, ?_, HR1.out, HI2.out⟩⟩
            rw [HF.out, putW_length]
            rfl
        · rw [if_pos (by rfl)]
          refine wp_append_row (.tmp 50) (.tmp 51) rfl w5.heap.size _ 1 [1] rfl HO6.out o5 t c5 x rfl HX1.out.symm HX6.out (by omega) HB6.out.size fun v7 w7 hv7 hg7 => hK _ _ ?_
          clear hK K
          have hb7 := own_below (n := 0) HB6.out HO6.out hg7
          obtain ⟨g7, cap7, rfl, hg7', hbu7⟩ := own_buf hv7 (by omega) (by simp [HX1.out] <;> omega)
          have hs7 : w7.heap[gS]? = some (.cells CS 70 (0, 0)) := by rw [hb7.block _ (Array.getElem?_eq_some_iff.1 HSX.out).1]; exact HSX.out
          have HS7 := Lib.hid hs7
          have HB7 := Lib.hid hb7
          have hlen7 : ([1] ++ x : List UInt8).length = t + 1 := by simp [HX1.out] <;> omega
          have HT7 := Lib.hid (HTD.out w7 (some ⟨g7, 0, none⟩) cap7 hb7 hbu7.row)
          rw [hlen7]
          clear hv7 hg7 hb7 hg7' hbu7 hs7 hlen7
          refine wpAny_ready (rs := [1]) (by kernel_rfl) (by simp) ?_
          refine AllReady.cons rfl (fun K hK => ?_) AllReady.nil
          rw [if_pos (by rfl)]
          refine wp_load_row 70 (.tmp 10) rfl gS rfl 70 CS (0, 0) _ HS7.out syn_under rfl HZ2.out (hK _ _ ?_)
          clear hK K
          refine wpAny_ready (rs := [7]) (by kernel_rfl) (by simp) ?_
          refine AllReady.cons rfl (fun K hK => ?_) AllReady.nil
          go_simp
          refine HT7.out.mono ?_; rintro e w8 ⟨hb8, ⟨hf, rfl⟩ | ⟨hf, l, v1, v2, hl1, hl2, rfl, hr1, hi2⟩⟩
          · have HNC := Lib.hid (HNOC.out hf)
            have HB8 := Lib.hid (Kit.step (Kit.step (Kit.step HB4.out HB5.out) HB7.out) hb8)
            clear hb8 hf HT7
            refine hK _ _ ?_
            clear hK K
            refine wpAny_ready (rs := [8]) (by kernel_rfl) (by simp) ?_
            refine AllReady.cons rfl (fun K hK => ?_) AllReady.nil
            go_simp
            refine hK _ _ ?_
            clear hK K
            refine wpAny_take (i := 9) (v := ?va17) rfl (by kernel_rfl) (by kernel_rfl) (by kernel_rfl) (fun _ _ _ h => h) (Or.inl ⟨by rfl, ?ha17⟩) ?ra17
            case ha17 => (intro w; (go_simp <;> with_reducible rfl))
            refine wpAny_take (i := 10) (v := ?va18) rfl (by kernel_rfl) (by kernel_rfl) (by kernel_rfl) (fun _ _ _ h => h) (Or.inl ⟨by rfl, ?ha18⟩) ?ra18
            case ha18 => (intro w; (go_simp <;> with_reducible rfl))
            refine wpAny_take (i := 11) (v := ?va19) rfl (by kernel_rfl) (by kernel_rfl) (by kernel_rfl) (fun _ _ _ h => h) (Or.inl ⟨by rfl, ?ha19⟩) ?ra19
            case ha19 => (intro w; (go_simp <;> with_reducible rfl))
            refine wpAny_ready (rs := [12]) (by kernel_rfl) (by simp) ?_
            refine AllReady.cons rfl (fun K hK => ?_) AllReady.nil
            go_simp
            refine hK _ _ ?_
            clear hK K
            refine wpAny_ready (rs := [13]) (by kernel_rfl) (by simp) ?_
            refine AllReady.cons rfl (fun K hK => ?_) AllReady.nil
            go_simp
            refine hK _ _ ?_
            clear hK K
            refine wpAny_ready (rs := [14]) (by kernel_rfl) (by simp) ?_
            refine AllReady.cons rfl (fun K hK => ?_) AllReady.nil
            go_simp
            refine hK _ _ ?_
            clear hK K
            refine wpAny_done (by kernel_rfl) ?_ _
            go_wp2_with fail
            refine bodyPost_ret (results_tmp4 rfl _ _ _) rfl ?_
            exact ⟨HB8.out, .inl ⟨HNC.out, rfl⟩⟩
          · have hreg := HREG.out hf
            have hch := hreg.chg (al_all (R := 1 :: x) HOK.out) l hl1 hl2
            have HCH := Lib.hid hch
            have HF := Lib.hid hf
            have HB8 := Lib.hid (Kit.step (Kit.step (Kit.step HB4.out HB5.out) HB7.out) hb8)
            have HR1 := Lib.hid (hr1.lower (Kit.step (Kit.step HB4.out HB5.out) HB7.out).size)
            have HI2 := Lib.hid (hi2.lower (Kit.step (Kit.step HB4.out HB5.out) HB7.out).size)
            obtain ⟨oa, ca, rfl, _⟩ := hr1.rv
            obtain ⟨ob, cb, rfl, _⟩ := hi2.iv
            clear hb8 hf HT7 hreg hch hl1 hl2
            refine hK _ _ ?_
            clear hK K
            refine wpAny_ready (rs := [8]) (by kernel_rfl) (by simp) ?_
            refine AllReady.cons rfl (fun K hK => ?_) AllReady.nil
            go_simp
            refine hK _ _ ?_
            clear hK K
            refine wpAny_take (i := 9) (v := ?va20) rfl (by kernel_rfl) (by kernel_rfl) (by kernel_rfl) (fun _ _ _ h => h) (Or.inl ⟨by rfl, ?ha20⟩) ?ra20
            case ha20 => (intro w; (go_simp <;> with_reducible rfl))
            refine wpAny_take (i := 10) (v := ?va21) rfl (by kernel_rfl) (by kernel_rfl) (by kernel_rfl) (fun _ _ _ h => h) (Or.inl ⟨by rfl, ?ha21⟩) ?ra21
            case ha21 => (intro w; (go_simp <;> with_reducible rfl))
            refine wpAny_take (i := 11) (v := ?va22) rfl (by kernel_rfl) (by kernel_rfl) (by kernel_rfl) (fun _ _ _ h => h) (Or.inl ⟨by rfl, ?ha22⟩) ?ra22
            case ha22 => (intro w; (go_simp <;> with_reducible rfl))
            refine wpAny_ready (rs := [12]) (by kernel_rfl) (by simp) ?_
            refine AllReady.cons rfl (fun K hK => ?_) AllReady.nil
            go_simp
            refine hK _ _ ?_
            clear hK K
            refine wpAny_ready (rs := [13]) (by kernel_rfl) (by simp) ?_
            refine AllReady.cons rfl (fun K hK => ?_) AllReady.nil
            go_simp
            refine hK _ _ ?_
            clear hK K
            refine wpAny_ready (rs := [14]) (by kernel_rfl) (by simp) ?_
            refine AllReady.cons rfl (fun K hK => ?_) AllReady.nil
            go_simp
            refine hK _ _ ?_
            clear hK K
            refine wpAny_done (by kernel_rfl) ?_ _
            go_wp2_with fail
            refine bodyPost_ret (results_tmp4 rfl _ _ _) rfl ?_
            refine ⟨HB8.out, .inr ⟨putW W l, fnd n z (1 :: x) n, .slice oa (putW W l).length ca, .slice ob (dfL (putW W l) W n).length cb, HCH.out, ?_, HR1.out, HI2.out⟩⟩
            rw [HF.out, putW_length]
            rfl
    · have hd : decide (2 * (t : Int) ≤ (m : Int)) = false := decide_eq_false (by omega)
      have hd' : decide (2 * t ≤ m) = false := decide_eq_false h2t
      have hnc := HNO.out L cc HLEA.out HRUN.out (by rw [HML.out]; exact hLle) (by omega)
      have HNC := Lib.hid hnc
      have HBE := Lib.hid (Kit.step HB4.out hb)
      clear hb hnc
      go_wp2_with fail
      refine bodyPost_ret (results_tmp4 rfl _ _ _) rfl ?_
      exact ⟨HBE.out, .inl ⟨HNC.out, rfl⟩⟩
theorem rfix_any (W : List UInt8) (z : List Int) (n c cz : Nat) (o oz : Option Addr) (w : World) (hW : RowIs w o (bytesV W) c) (hZ : RowIs w oz (intsV z) cz) (hn : W.length = n) (hG : ErGood n z)
    (Z : Array Value) (hZs : (bytesV zsyn).toArray = Z) (CS : Array Value) (hCS : (bytesV (synL W)).toArray = CS) :
    Calls Tryz.prog 19 #[.slice o n c, .slice oz z.length cz] w (RxTo W n z w) :=
  (rfix_own W z n c cz o oz w hW hZ hn hG Z hZs CS hCS).mono fun e w' ⟨hb, h⟩ => ⟨hb, h.imp id fun ⟨v, H, x1, x2, h1, h2, h3, h4⟩ => ⟨v, H, x1, x2, h1, h2, h3.rv, h4.iv⟩⟩
end Go.Proofs.YtgifbpjmblemhaaGreatDoor
