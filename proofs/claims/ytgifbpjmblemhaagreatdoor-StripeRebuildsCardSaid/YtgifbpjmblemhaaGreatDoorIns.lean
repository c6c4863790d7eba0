/- Rows of ints; where two words differ. The document's erasure locator. Ints, SameInts, KeptInts. -/
import Derived.Test.YtgifbpjmblemhaaGreatDoorCg
import Derived.Test.YtgifbpjmblemhaaGreatDoorApw
import Derived.BigRegion
import Derived.Deep.QuietTactic
import Derived.BigQuiet
import Derived.Test.YtgifbpjmblemhaaGreatDoorRr
import Derived.Test.YtgifbpjmblemhaaGreatDoorSl
namespace Go.Proofs.YtgifbpjmblemhaaGreatDoor
open Go.RowKit
set_option linter.unusedVariables false
set_option linter.unusedSimpArgs false
theorem info_int : (Tryz.prog.info? 3).map (fun i => (i.zero, i.size, i.bytes)) = some (some (.int .i64 0), 1, 8) := by kernel_rfl
/-- a slice that reads as a list of ints -/
def IntsV (z : List Int) (x : Value) (v : World) : Prop := ∃ o c, x = .slice o z.length c ∧ RowIs v o (intsV z) c
theorem IntsV.later {z : List Int} {x : Value} {v v' : World} (h : IntsV z x v) (hb : Below v.heap.size v v') : IntsV z x v' := by
  obtain ⟨o, c, e, h⟩ := h
  exact ⟨o, c, e, h.later hb⟩
theorem owns_ints {W : World} {n : Nat} {v : Value} {z : List Int} {m : Nat} (h : W.ownsRow n 3 1 v m (intsV z)) (hm : m = z.length) : IntsV z v W := by
  subst hm
  have h00 := h
  obtain ⟨hl, hx⟩ := h
  rcases hx with ⟨rfl, h0⟩ | ⟨g, cap, cur, rfl, hg, hh, h1, h2, hcur, htake⟩
  · refine ⟨none, 0, by rw [h0], ⟨by simp [h0], Nat.zero_le _, fun _ => rfl, fun h => ?_⟩⟩
    simp [h0] at h
  · exact ⟨_, cap, rfl, ⟨by simpa using h1, h2, (fun e => by cases e), fun _ => ⟨g, 0, rfl, (Array.getElem?_eq_some_iff.1 hh).1, fun i u hu => by
      have hi := (List.getElem?_eq_some_iff.1 hu).1
      rw [Nat.zero_add, World.ownsRow.cellAt h00 i (by simp at hi; omega)]
      exact hu⟩⟩⟩
theorem own_belowI {w0 w w' : World} {v : Value} {xs : List Value} {m : Nat} (hb : Below w0.heap.size w0 w) (h : w.ownsRow w0.heap.size 3 1 v m xs) (hg : w.grownBy w' v.ownBlock) : Below w0.heap.size w0 w' :=
  hb.grown hg hb.size (fun k e => (World.ownsRow.lt h k e).1)
theorem append_int {ops : Array Oper} {rest : List Oper} {o : Oper} {a : Act} {Q : Exit → Act → World → Prop} {w : World} (hgd : o.guard = none) (s x : Operand)
    (ho : o.op = .call { callee := .builtin .append, args := #[s, x], argTypes := #[25, 25] })
    (base : Nat) (v : Value) (n : Nat) (z : List Int) (hs : a.eval s = v) (hown : w.ownsRow base 3 1 v n (intsV z))
    (g : Nat) (y : Int) (hx : a.eval x = .slice (some ⟨g, 0, none⟩) 1 1) (hg : w.cell? ⟨g, 0, none⟩ = some (.int .i64 y)) (hl : n ≤ 10000000) (hbase : base ≤ w.heap.size)
    (h : ∀ v' w', w'.ownsRow base 3 1 v' (n + 1) (intsV (z ++ [y])) → w.grownBy w' v.ownBlock → wpList Tryz.prog ops Q rest (a.put o.dst v') w') : wpList Tryz.prog ops Q (o :: rest) a w := by
  obtain ⟨i0, hi, hz0, hz1, hz2⟩ := info_parts info_int
  have e : intsV (z ++ [y]) = intsV z ++ [.int .i64 y] := by simp [intsV]
  rw [e] at h
  refine wpList_append_own_wide w hgd s x 25 ho base 3 i0 (.int .i64 0) 1 8 Tryz.underlying25 hi hz0 hz1 hz2 rfl (by decide) v n (intsV z) hs hown ⟨g, 0, none⟩ 1 1 [.int .i64 y] hx (by simp) (fun j u hj => ?_) (fun u hu => ?_) (by unfold maxLen; omega) (by omega) hbase ?_
  · have h1 := (List.getElem?_eq_some_iff.1 hj).1
    simp at h1
    subst h1
    simp at hj
    subst hj
    exact hg
  · simp at hu
    subst hu
    rfl
  · intro v' w' h1 h2 _
    exact h v' w' h1 h2
/-- where two words differ, of the first n places -/
def dfL (a b : List UInt8) : Nat → List Int
  | 0 => []
  | k + 1 => if co a k = co b k then dfL a b k else dfL a b k ++ [(k : Int)]
theorem dfL_length (a b : List UInt8) (k : Nat) : (dfL a b k).length ≤ k := by
  induction k with
  | zero => exact Nat.le_refl _
  | succ k ih =>
    rw [dfL]
    split
    · omega
    · simp; omega
theorem dfL_prefix (a b : List UInt8) (k m : Nat) : ∃ t, dfL a b (k + m) = dfL a b k ++ t := by
  induction m with
  | zero => exact ⟨[], by simp⟩
  | succ m ih =>
    obtain ⟨t, ht⟩ := ih
    rw [← Nat.add_assoc, dfL]
    split
    · exact ⟨t, ht⟩
    · exact ⟨t ++ [((k + m : Nat) : Int)], by rw [ht, List.append_assoc]⟩
theorem dfL_at (a b : List UInt8) (k n : Nat) (h : k < n) (hd : co a k ≠ co b k) : (dfL a b k).length < (dfL a b n).length ∧ (dfL a b n)[(dfL a b k).length]? = some (k : Int) := by
  obtain ⟨t, ht⟩ := dfL_prefix a b (k + 1) (n - (k + 1))
  rw [show k + 1 + (n - (k + 1)) = n by omega, dfL, if_neg hd] at ht
  rw [ht]
  simp
theorem dfL_count (a b : List UInt8) (h : a.length = b.length) (n : Nat) (hn : n ≤ a.length) : (dfL a b n).length = ((Gf.sumW a b).take n).countP (· != 0) := by
  induction n with
  | zero => simp [dfL]
  | succ n ih =>
    have hs : n < (Gf.sumW a b).length := by simp [Gf.sumW]; omega
    have hco : co (Gf.sumW a b) n = co a n ^^^ co b n := by
      simp [co, Gf.sumW, List.getD_eq_getElem?_getD, List.getElem?_zipWith, show n < a.length by omega, show n < b.length by omega]
    have e : (Gf.sumW a b).take (n + 1) = (Gf.sumW a b).take n ++ [co (Gf.sumW a b) n] := by
      rw [List.take_add_one, List.getElem?_eq_getElem hs]
      simp [co, hs]
    rw [dfL, e, List.countP_append, ← ih (by omega), hco]
    by_cases hc : co a n = co b n
    · rw [if_pos hc, hc, UInt8.xor_self]
      simp
    · rw [if_neg hc]
      have hx : co a n ^^^ co b n ≠ 0 := fun h0 => hc (Gf.xor_eq_zero _ _ h0)
      simp [hx]
theorem dfL_diffs (a b : List UInt8) (h : a.length = b.length) : (dfL a b a.length).length = diffs a b := by
  rw [dfL_count a b h _ (Nat.le_refl _), List.take_of_length_le (by simp [Gf.sumW, h])]
  rfl
theorem dfL_same (a : List UInt8) (n : Nat) : dfL a a n = [] := by
  induction n with
  | zero => rfl
  | succ n ih => rw [dfL, if_pos rfl, ih]
def DfAt (a b : List UInt8) (w : World) (v i : Value) (wr : World) : Prop :=
  ∃ k : Nat, k ≤ a.length ∧ i = .int .i64 k ∧ wr.ownsRow w.heap.size 3 1 v (dfL a b k).length (intsV (dfL a b k)) ∧ Below w.heap.size w wr
set_option maxRecDepth 100000 in
set_option maxHeartbeats 2000000 in
theorem differ_own (a b : List UInt8) (o o2 : Option Addr) (c c2 : Nat) (w : World) (hA : RowIs w o (bytesV a) c) (hB : RowIs w o2 (bytesV b) c2) (hl : a.length = b.length) (hn : a.length ≤ 100000) :
    Calls Tryz.prog 40 #[.slice o a.length c, .slice o2 b.length c2] w fun e w' => ∃ x, e = .returned x ∧ w'.ownsRow w.heap.size 3 1 x (dfL a b a.length).length (intsV (dfL a b a.length)) ∧ Below w.heap.size w w' := by
  have h1 := hA.le
  have h2 := hA.cap
  have h3 := hB.le
  have h4 := hB.cap
  simp only [bytesV_length] at h1 h3
  unfold maxLen at h2 h4
  have HA := Lib.hid hA
  have HB := Lib.hid hB
  have HOWN : Hid (w.ownsRow w.heap.size 3 1 (.slice none 0 0) 0 (intsV [])) := Lib.hid (World.ownsRow_nil _ _ _ _)
  rw [← hl]
  have HL := Lib.hid hl
  clear hA hB hl h3
  go_enter Tryz.func40, Tryz.ntmps40
  go_wp2_with fail
  go_loopw [5, 6, 14] (fun v _ i wr => DfAt a b w v i wr) (fun _ _ i _ => a.length - (intOf i).toNat)
  case atStart => exact ⟨0, Nat.zero_le _, rfl, HOWN.out, Below.refl _ _⟩
  case round =>
    obtain ⟨k, hk, rfl, hv, hb⟩ := hrel
    have HV := Lib.hid hv
    have HB1 := Lib.hid hb
    by_cases hlt : k < a.length
    · obtain ⟨b1, off1, rfl, hb1, hcell⟩ := (HA.out.later hb).cells (by simp; omega)
      have hc1 : wr.cell? ⟨b1, off1 + k, none⟩ = some (.int .u8 ((co a k).toNat : Int)) := hcell k _ (bytesV_get a k hlt)
      have hltb : k < b.length := by have := HL.out; omega
      obtain ⟨b2, off2, rfl, hb2, hcell2⟩ := (HB.out.later hb).cells (by simp; omega)
      have hc2 : wr.cell? ⟨b2, off2 + k, none⟩ = some (.int .u8 ((co b k).toNat : Int)) := hcell2 k _ (bytesV_get b k hltb)
      have hk0 : (0 : Int) ≤ (k : Int) := by omega
      have hk1 : (k : Int) < (a.length : Int) := by omega
      have hxl := UInt8.toNat_lt (co a k)
      have hyl := UInt8.toNat_lt (co b k)
      have hlen := dfL_length a b k
      clear hcell hcell2 hv hb
      by_cases he : co a k = co b k
      · have HD : Hid (dfL a b (k + 1) = dfL a b k) := Lib.hid (if_pos he)
        rw [← he] at hc2
        generalize co a k = x at *
        clear he
        go_wp2_with fail
        go_quiet (fail)
        go_wp2_with fail
        go_roundw
        case rel => exact ⟨k + 1, by omega, by go_num, by rw [HD.out]; exact HV.out, HB1.out.trans ⟨rfl, rfl, rfl, Nat.le_refl _, fun _ _ => rfl⟩⟩
        case measure => simp [intOf]; omega
      · have HD : Hid (dfL a b k ++ [(k : Int)] = dfL a b (k + 1)) := Lib.hid (if_neg he).symm
        have hne : ¬ (co a k).toNat = (co b k).toNat := fun e => he (Gf.u8_ext e)
        generalize co a k = x at *
        generalize co b k = y at *
        have hnb : ((x.toNat : Int) == (y.toNat : Int)) = false := beq_false_of_ne (by omega)
        have hnd : decide ((x.toNat : Int) = (y.toNat : Int)) = false := decide_eq_false (by omega)
        have hnt : ((x.toNat : Int) != (y.toNat : Int)) = true := by rw [bne_iff_ne]; omega
        have HLE := Lib.hid hlen
        have HE : Hid (∀ n, ((wr.drewN n).alloc (.cells (#[.int .i64 (k : Int)]) 3)).ownsRow w.heap.size 3 1 _ (dfL a b k).length (intsV (dfL a b k))) := Lib.hid fun n => World.ownsRow.alloc (show (wr.drewN n).ownsRow w.heap.size 3 1 _ (dfL a b k).length (intsV (dfL a b k)) from HV.out) _
        have HBE : Hid (∀ n, Below w.heap.size w ((wr.drewN n).alloc (.cells (#[.int .i64 (k : Int)]) 3))) := Lib.hid fun n => (Kit.dn HB1.out n).alloc HB1.out.size _
        have HCE : Hid (∀ n, ((wr.drewN n).alloc (.cells (#[.int .i64 (k : Int)]) 3)).cell? ⟨wr.heap.size, 0, none⟩ = some (.int .i64 (k : Int))) := Lib.hid fun n => cell_of_row _ _ 0 _ _ _ (show ((wr.drewN n).alloc (.cells (#[.int .i64 (k : Int)]) 3)).heap[wr.heap.size]? = _ from World.alloc_heap_new (wr.drewN n) _)
        clear he hne hlen
        go_wp2_with fail
        go_quiet (fail)
        rename_i nq
        go_wp2_with (at_builtin; refine append_int rfl (.tmp 26) (.tmp 28) rfl w.heap.size _ (dfL a b k).length (dfL a b k) rfl (HE.out nq) _ (k : Int) rfl (HCE.out nq) (by have := HLE.out; omega) (HBE.out nq).size ?_)
        intro v' w2 hv hg
        have hv2 : w2.ownsRow w.heap.size 3 1 v' (dfL a b (k + 1)).length (intsV (dfL a b (k + 1))) := by
          rw [← HD.out]
          simpa using hv
        have HV2 := Lib.hid hv2
        have HB2 := Lib.hid (own_belowI (HBE.out nq) (HE.out nq) hg)
        clear hv hg hv2
        go_wp2_with fail
        go_roundw
        case rel => exact ⟨k + 1, by omega, by go_num, HV2.out, HB2.out⟩
        case measure => simp [intOf]; omega
    · obtain rfl : k = a.length := by omega
      have HR := Lib.hid hv
      clear hv hb
      go_wp2_with fail
      go_ret
      exact ⟨_, rfl, HR.out, HB1.out⟩
theorem differ_any (a b : List UInt8) (o o2 : Option Addr) (c c2 : Nat) (w : World) (hA : RowIs w o (bytesV a) c) (hB : RowIs w o2 (bytesV b) c2) (hl : a.length = b.length) (hn : a.length ≤ 100000) :
    Calls Tryz.prog 40 #[.slice o a.length c, .slice o2 b.length c2] w fun e w' => ∃ x, e = .returned x ∧ IntsV (dfL a b a.length) x w' ∧ Below w.heap.size w w' :=
  (differ_own a b o o2 c c2 w hA hB hl hn).mono fun _ _ ⟨x, h1, h2, h3⟩ => ⟨x, h1, owns_ints h2 rfl, h3⟩
end Go.Proofs.YtgifbpjmblemhaaGreatDoor
namespace Go.Proofs.YtgifbpjmblemhaaGreatDoor
open Go.RowKit
set_option linter.unusedVariables false
set_option linter.unusedSimpArgs false
def ci (z : List Int) (k : Nat) : Int := z.getD k 0
/-- the values that stand for places -/
def xsL (n : Nat) (z : List Int) : List UInt8 := z.map fun p => Gf.al (n - 1 - p.toNat)
theorem co_xsL (n : Nat) (z : List Int) (k : Nat) (h : k < z.length) : co (xsL n z) k = Gf.al (n - 1 - (ci z k).toNat) := by
  simp [co, xsL, ci, List.getD_eq_getElem?_getD, h]
theorem inv_step (z : List UInt8) (k : Nat) : tr (mulL (tr (prodL (fun r => [1, r]) z k)) [1, co z k]) = tr (prodL (fun r => [1, r]) z (k + 1)) := tr_congr (mulL_congr (co_tr _) (fun _ => rfl))
def ErTo (n : Nat) (z : List Int) (w : World) (e : Ending) (w' : World) : Prop :=
  Below w.heap.size w w' ∧ (((∃ k, k < z.length ∧ (ci z k < 0 ∨ (n : Int) ≤ ci z k)) ∧ e = .returned (.tuple #[.slice none 0 0, .int .i64 1])) ∨
    ((∀ k, k < z.length → 0 ≤ ci z k ∧ ci z k < n) ∧ (((∃ i j, j < i ∧ i < z.length ∧ ci z i = ci z j) ∧ e = .returned (.tuple #[.slice none 0 0, .int .i64 10])) ∨
      ((∀ i j, j < i → i < z.length → ci z i ≠ ci z j) ∧ ((32 < z.length ∧ e = .returned (.tuple #[.slice none 0 0, .int .i64 16])) ∨
        (z.length ≤ 32 ∧ ∃ x, e = .returned (.tuple #[x, .int .i64 0]) ∧ RowV (tr (prodL (fun r => [1, r]) (xsL n z) z.length)) x w'))))))
def E1At (n : Nat) (z : List Int) (w : World) (i : Value) (wr : World) : Prop := ∃ k : Nat, k ≤ z.length ∧ i = .int .i64 k ∧ (∀ j, j < k → 0 ≤ ci z j ∧ ci z j < n) ∧ wr = w
def E2At (z : List Int) (w : World) (i : Value) (wr : World) : Prop := ∃ k : Nat, k ≤ z.length ∧ i = .int .i64 k ∧ (∀ a b, b < a → a < k → ci z a ≠ ci z b) ∧ wr = w
def E3At (z : List Int) (k : Nat) (w : World) (i : Value) (wr : World) : Prop := ∃ j : Nat, j ≤ k ∧ i = .int .i64 j ∧ (∀ b, b < j → ci z k ≠ ci z b) ∧ wr = w
def E4At (n : Nat) (z : List Int) (w : World) (v i : Value) (wr : World) : Prop := ∃ k : Nat, k ≤ z.length ∧ i = .int .i64 k ∧ RowV (tr (prodL (fun r => [1, r]) (xsL n z) k)) v wr ∧ Below w.heap.size w wr
theorem res_size (m c : Nat) (o : Option Addr) (n : Int) (w : World) (h : ¬ (33 ≤ n ∧ n ≤ 255)) (hm : m ≤ 9223372036854775807) :
    Calls Tryz.prog 30 #[.int .i64 n, .slice o m c] w fun e w' => e = .returned (.tuple #[.slice none 0 0, .int .i64 8]) ∧ w' = w := by
  have S1 : Hid (∀ w, Calls Tryz.prog 42 #[.int .i64 n] w fun e w' => e = .returned (.bool false) ∧ w' = w) := Lib.hid fun w => by
    have := sized_any n w
    rwa [decide_eq_false h] at this
  clear h
  go_enter Tryz.func30, Tryz.ntmps30
  go_wp2_with fail
  refine (S1.out _).mono ?_; rintro e w' ⟨rfl, rfl⟩
  go_wp2_with fail
  go_ret2
  exact ⟨rfl, rfl⟩
set_option maxRecDepth 100000 in
set_option maxHeartbeats 4000000 in
theorem res_any (z : List Int) (n c : Nat) (o : Option Addr) (w : World) (hS : RowIs w o (intsV z) c) (hn1 : 33 ≤ n) (hn2 : n ≤ 255) (hl : z.length ≤ 1000) (hz : ∀ k, k < z.length → -9223372036854775808 ≤ ci z k ∧ ci z k ≤ 9223372036854775807) :
    Calls Tryz.prog 30 #[.int .i64 n, .slice o z.length c] w (ErTo n z w) := by
  have S1 : Hid (∀ w, Calls Tryz.prog 42 #[.int .i64 n] w fun e w' => e = .returned (.bool true) ∧ w' = w) := Lib.hid fun w => by
    have := sized_any (n : Int) w
    rwa [decide_eq_true (by omega : 33 ≤ (n : Int) ∧ (n : Int) ≤ 255)] at this
  have h1 := hS.le
  have h2 := hS.cap
  simp only [intsV_length] at h1
  unfold maxLen at h2
  have HS := Lib.hid hS
  have HZ := Lib.hid hz
  have hci : ∀ (v : World), Below w.heap.size w v → ∀ k, k < z.length → ∃ b off, o = some ⟨b, off, none⟩ ∧ v.cell? ⟨b, off + k, none⟩ = some (.int .i64 (ci z k)) := fun v hb k hk => by
    obtain ⟨b, off, rfl, _, hc⟩ := (hS.later hb).cells (by simp; omega)
    exact ⟨b, off, rfl, hc k _ (by simp [intsV, ci, List.getD_eq_getElem?_getD, hk])⟩
  have HC := Lib.hid hci
  clear hS hz hci
  go_enter Tryz.func30, Tryz.ntmps30
  go_wp2_with fail
  refine (S1.out _).mono ?_; rintro e w1 ⟨rfl, rfl⟩
  go_wp2_with fail
  go_loopw [7, 20] (fun _ i wr => E1At n z w1 i wr) (fun _ i _ => z.length - (intOf i).toNat)
  case atStart => exact ⟨0, Nat.zero_le _, rfl, fun j h => absurd h (by omega), rfl⟩
  case round =>
    obtain ⟨k, hk, rfl, hall, rfl⟩ := hrel
    have HALL := Lib.hid hall
    clear hall
    by_cases hlt : k < z.length
    · obtain ⟨b, off, rfl, hcell⟩ := HC.out wr (Below.refl _ _) k hlt
      obtain ⟨p, hp⟩ : ∃ p, ci z k = p := ⟨_, rfl⟩
      rw [hp] at hcell
      have hpz := HZ.out k hlt
      rw [hp] at hpz
      have HP := Lib.hid hp
      have hk0 : (0 : Int) ≤ (k : Int) := by omega
      have hk1 : (k : Int) < (z.length : Int) := by omega
      clear hp
      by_cases h0 : p < 0
      · have hd0 : decide (p < 0) = true := decide_eq_true h0
        go_wp2_with fail
        go_ret2
        exact ⟨Below.refl _ _, .inl ⟨⟨k, hlt, .inl (by rw [HP.out]; exact h0)⟩, rfl⟩⟩
      · have hd0 : decide (p < 0) = false := decide_eq_false h0
        by_cases h3 : (n : Int) ≤ p
        · have hd3 : decide ((n : Int) ≤ p) = true := decide_eq_true h3
          go_wp2_with fail
          go_ret2
          exact ⟨Below.refl _ _, .inl ⟨⟨k, hlt, .inr (by rw [HP.out]; exact h3)⟩, rfl⟩⟩
        · have hd3 : decide ((n : Int) ≤ p) = false := decide_eq_false h3
          go_wp2_with fail
          go_roundw
          case rel =>
            refine ⟨k + 1, by omega, by go_num, fun j hj => ?_, rfl⟩
            by_cases e : j = k
            · rw [e, HP.out]; omega
            · exact HALL.out j (by omega)
          case measure => simp [intOf]; omega
    · obtain rfl : k = z.length := by omega
      go_wp2_with fail
      go_loopw [8, 9, 34] (fun _ _ i w2 => E2At z wr i w2) (fun _ _ i _ => z.length - (intOf i).toNat)
      case atStart => exact ⟨0, Nat.zero_le _, rfl, fun a b _ h => absurd h (by omega), rfl⟩
      case round =>
        rename World => W2
        obtain ⟨k, hk, rfl, hdis, rfl⟩ := hrel
        have HDIS := Lib.hid hdis
        clear hdis
        by_cases hlt2 : k < z.length
        · obtain ⟨b, off, rfl, hcell⟩ := HC.out W2 (Below.refl _ _) k hlt2
          have hk0 : (0 : Int) ≤ (k : Int) := by omega
          have hk1 : (k : Int) < (z.length : Int) := by omega
          have hkc : (k : Int) ≤ (c : Int) := by omega
          have hpz := HZ.out k hlt2
          go_wp2_with fail
          go_loopw [11, 43] (fun _ i w3 => E3At z k W2 i w3) (fun _ i _ => k - (intOf i).toNat)
          case atStart => exact ⟨0, Nat.zero_le _, rfl, fun b h => absurd h (by omega), rfl⟩
          case round =>
            rename World => W3
            obtain ⟨j, hj, rfl, hne, rfl⟩ := hrel
            have HNE := Lib.hid hne
            clear hne
            by_cases hjk : j < k
            · obtain ⟨b2, off2, e2, hcell2⟩ := HC.out W3 (Below.refl _ _) j (by omega)
              obtain ⟨rfl, rfl⟩ : b = b2 ∧ off = off2 := by cases e2; exact ⟨rfl, rfl⟩
              have hj0 : (0 : Int) ≤ (j : Int) := by omega
              have hj1 : (j : Int) < (k : Int) := by omega
              have hqz := HZ.out j (by omega)
              obtain ⟨q, hq⟩ : ∃ q, ci z j = q := ⟨_, rfl⟩
              obtain ⟨p, hp⟩ : ∃ p, ci z k = p := ⟨_, rfl⟩
              rw [hq] at hcell2 hqz
              rw [hp]
              have HQ := Lib.hid hq
              have HP := Lib.hid hp
              clear hp hq hcell e2 hpz
              by_cases hpq : p = q
              · have hpb : (p == q) = true := by simpa using hpq
                have hpd : decide (p = q) = true := decide_eq_true hpq
                have HPQ : Hid (ci z k = ci z j) := Lib.hid (by rw [HP.out, HQ.out, hpq])
                clear hpq
                go_wp2_with fail
                go_ret2
                exact ⟨Below.refl _ _, .inr ⟨HALL.out, .inl ⟨⟨k, j, hjk, hlt2, HPQ.out⟩, rfl⟩⟩⟩
              · have hpb : (p == q) = false := by simpa using hpq
                have hpd : decide (p = q) = false := decide_eq_false hpq
                have HPQ : Hid (ci z k ≠ ci z j) := Lib.hid (by rw [HP.out, HQ.out]; exact hpq)
                clear hpq
                go_wp2_with fail
                go_roundw
                case rel =>
                  refine ⟨j + 1, by omega, by go_num, fun b hb => ?_, rfl⟩
                  by_cases e : b = j
                  · rw [e]; exact HPQ.out
                  · exact HNE.out b (by omega)
                case measure => simp [intOf]; omega
            · obtain rfl : j = k := by omega
              go_wp2_with fail
              go_roundw
              case rel =>
                refine ⟨j + 1, by omega, by go_num, fun a b hb ha => ?_, rfl⟩
                by_cases e : a = j
                · rw [e] at hb ⊢; exact HNE.out b hb
                · exact HDIS.out a b hb (by omega)
              case measure => simp [intOf]; omega
        · obtain rfl : k = z.length := by omega
          have HDS : Hid (∀ i j, j < i → i < z.length → ci z i ≠ ci z j) := Lib.hid fun i j h1 h2 => HDIS.out i j h1 h2
          by_cases h32 : 32 < z.length
          · have hd32 : decide ((32 : Int) < (z.length : Int)) = true := decide_eq_true (by omega)
            go_wp2_with fail
            go_ret2
            exact ⟨Below.refl _ _, .inr ⟨HALL.out, .inr ⟨HDS.out, .inl ⟨h32, rfl⟩⟩⟩⟩
          · have hd32 : decide ((32 : Int) < (z.length : Int)) = false := decide_eq_false (by omega)
            obtain ⟨w4, hw4⟩ : ∃ w4, W2.alloc (.cells (bytesV [1]).toArray 5) = w4 := ⟨_, rfl⟩
            have hb4 : Below W2.heap.size W2 w4 := by rw [← hw4]; exact (Below.refl _ _).alloc (Nat.le_refl _) _
            have hr4 : RowV (tr (prodL (fun r => [1, r]) (xsL n z) 0)) (.slice (some ⟨W2.heap.size, 0, none⟩) 1 1) w4 := by
              show RowV (tr [1]) _ _
              rw [tr_one, ← hw4]
              exact ⟨_, _, rfl, row_cells (World.alloc_heap_new _ _) (by unfold maxLen; simp)⟩
            have HB4 := Lib.hid hb4
            have HR4 := Lib.hid hr4
            have HW4 := Lib.hid hw4
            clear hb4 hr4 hw4
            go_wp2_with fail
            rw [show W2.alloc (.cells #[.int .u8 1] 5) = w4 from HW4.out]
            go_loopw [12, 14, 58] (fun v _ i w5 => E4At n z W2 v i w5) (fun _ _ i _ => z.length - (intOf i).toNat)
            case atStart => exact ⟨0, Nat.zero_le _, rfl, HR4.out, HB4.out⟩
            case round =>
              rename World => W5
              clear HR4 HB4 HW4
              obtain ⟨k, hk, rfl, hv, hb⟩ := hrel
              have HV := Lib.hid hv
              have HB := Lib.hid hb
              by_cases hlt4 : k < z.length
              · obtain ⟨b, off, rfl, hcell⟩ := HC.out W5 hb k hlt4
                have hin := HALL.out k hlt4
                have HX := Lib.hid (co_xsL n z k hlt4)
                obtain ⟨p, hp⟩ := Int.eq_ofNat_of_zero_le hin.1
                rw [hp] at hcell hin
                have hpn : p < n := by omega
                have HPW : Hid (∀ v, Calls Tryz.prog 44 #[.int .i64 (n : Int), .int .i64 (p : Int)] v fun e w' => e = .returned (.int .u8 ((co (xsL n z) k).toNat : Int)) ∧ w' = v) := Lib.hid fun v => by
                  rw [HX.out, hp]
                  exact rplace_any n p hpn hn2 v
                have HST := Lib.hid (inv_step (xsL n z) k)
                obtain ⟨x, hx⟩ : ∃ x, co (xsL n z) k = x := ⟨_, rfl⟩
                rw [hx] at HPW HST
                have hxl := UInt8.toNat_lt x
                have hlen := tr_le (prodL (fun r => [1, r]) (xsL n z) k)
                rw [prodL_length _ _ (fun _ => rfl)] at hlen
                have HLE := Lib.hid hlen
                obtain ⟨o6, c6, rfl, hv6⟩ := hv
                have HV6 := Lib.hid hv6
                have hk0 : (0 : Int) ≤ (k : Int) := by omega
                have hk1 : (k : Int) < (z.length : Int) := by omega
                generalize tr (prodL (fun r => [1, r]) (xsL n z) k) = M at *
                clear hp hx hlen hv6 hb HV hin
                go_wp2_with fail
                refine (HPW.out _).mono ?_; rintro e w6 ⟨rfl, rfl⟩
                obtain ⟨w7, hw7⟩ : ∃ w7, w6.alloc (.cells (bytesV [1, x]).toArray 5) = w7 := ⟨_, rfl⟩
                have hb7 : Below w6.heap.size w6 w7 := by rw [← hw7]; exact (Below.refl _ _).alloc (Nat.le_refl _) _
                have hr7 : RowIs w7 (some ⟨w6.heap.size, 0, none⟩) (bytesV [1, x]) 2 := by rw [← hw7]; exact row_cells (World.alloc_heap_new _ _) (by unfold maxLen; simp)
                have hmu := rmulp_any M [1, x] _ _ _ _ w7 (HV6.out.later hb7) hr7 (by have := HLE.out; simp; omega)
                rw [HST.out, ← hw7] at hmu
                have HMU := Lib.hid hmu
                have HB7 := Lib.hid (Kit.step HB.out hb7)
                have HW7 := Lib.hid hw7
                clear hmu hb7 hr7 hw7
                go_wp2_with fail
                refine HMU.out.mono ?_; rintro e w8 ⟨v8, rfl, hr8, hb8⟩
                rw [HW7.out] at hb8
                have HR8 := Lib.hid hr8
                have HB8 := Lib.hid (Kit.step HB7.out hb8)
                clear hr8 hb8 HMU
                go_wp2_with fail
                go_roundw
                case rel => exact ⟨k + 1, by omega, by go_num, HR8.out, HB8.out⟩
                case measure => simp [intOf]; omega
              · obtain rfl : k = z.length := by omega
                clear hv hb
                go_wp2_with fail
                go_ret2
                exact ⟨HB.out, .inr ⟨HALL.out, .inr ⟨HDS.out, .inr ⟨by omega, _, rfl, HV.out⟩⟩⟩⟩
end Go.Proofs.YtgifbpjmblemhaaGreatDoor
namespace Go.Proofs.YtgifbpjmblemhaaGreatDoor
open Go.ChangeShapes Go.WideShapes Go.ChangeAt Go.RowKit
set_option linter.unusedVariables false
set_option linter.unusedSimpArgs false
def marksI : List Int := [-91, -92, -93, -94]
def MarkedI (W : World) (B : Nat) (z : List Int) : Prop := W.heap[B]? = some (.cells (intsV (z ++ marksI)).toArray 3 (0, 0))
theorem MarkedI.later {W W' : World} {B : Nat} {z : List Int} (h : MarkedI W B z) (hb : Below W.heap.size W W') : MarkedI W' B z := by
  unfold MarkedI at *
  rw [hb.block B (Array.getElem?_eq_some_iff.1 h).1]; exact h
theorem MarkedI.cell {W : World} {B : Nat} {z : List Int} (h : MarkedI W B z) (i : Nat) : W.cell? ⟨B, i, none⟩ = (intsV (z ++ marksI))[i]? := by
  rw [cell_of_row _ _ i _ _ _ h]
  simp
theorem MarkedI.row {W : World} {B : Nat} {z : List Int} (h : MarkedI W B z) (hl : z.length ≤ 1000) : RowIs W (some ⟨B, 0, none⟩) (intsV z) (z.length + 4) :=
  ⟨by simp, by unfold maxLen; omega, fun h => (by cases h), fun h0 => ⟨B, 0, rfl, (Array.getElem?_eq_some_iff.1 h).1, fun i v hv => by
    rw [Nat.zero_add, h.cell]
    have hi := (List.getElem?_eq_some_iff.1 hv).1
    unfold intsV at *
    rw [List.map_append, List.getElem?_append_left hi]; exact hv⟩⟩
def IntsEnd (w : World) (z : List Int) (e : Ending) (w' : World) : Prop :=
  ∃ B, e = .returned (.slice (some ⟨B, 0, none⟩) z.length (z.length + 4)) ∧ Below w.heap.size w w' ∧ w.heap.size ≤ B ∧ MarkedI w' B z
theorem intsEnd_of {w w1 : World} {z : List Int} {g : Nat} (hown : w1.ownsRow w.heap.size 3 1 (.slice (some ⟨g, 0, none⟩) (z.length + 4) (z.length + 4)) (z.length + 4) (intsV z ++ intsV marksI)) (hg : w.heap.size ≤ g) (hb : Below w.heap.size w w1) :
    IntsEnd w z (.returned (.slice (some ⟨g, 0, none⟩) z.length (z.length + 4))) w1 := by
  refine ⟨g, rfl, hb, hg, ?_⟩
  obtain ⟨hl, hx⟩ := hown
  rcases hx with ⟨h, _⟩ | ⟨g', cap, cur, h, _, hh, _, _, hcur, htake⟩
  · cases h
  · injection h with h1 h2 h3
    injection h1 with h1
    injection h1 with h1
    subst h1; subst h3
    unfold MarkedI
    rw [hh]
    have e : cur.toList = intsV z ++ intsV marksI := by
      rw [← htake, List.take_of_length_le (by simp [hcur])]
    have e2 : cur = (intsV (z ++ marksI)).toArray := by
      apply Array.ext'
      rw [e]; simp [intsV]
    rw [e2]
def SiAt2 (n : Nat) (w : World) (i : Value) (wr : World) : Prop := ∃ k : Nat, k ≤ n ∧ i = .int .i64 k ∧ Kit.Dn w wr
/-- two lists that are the same -/
theorem same_ints (z : List Int) (o o2 : Option Addr) (c c2 : Nat) (w : World) (h1 : RowIs w o (intsV z) c) (h2 : RowIs w o2 (intsV z) c2) (hz : z.length ≤ 1000) (hr : ∀ k, k < z.length → -9223372036854775808 ≤ z.getD k 0 ∧ z.getD k 0 ≤ 9223372036854775807) :
    Calls Tryz.prog 8 #[.slice o z.length c, .slice o2 z.length c2] w fun e w' => e = .returned (.bool true) ∧ Kit.Dn w w' := by
  have hc1 := h1.cap
  have hc2 := h2.cap
  unfold maxLen at hc1 hc2
  have H1 := Lib.hid h1
  have H2 := Lib.hid h2
  have HR := Lib.hid hr
  clear h1 h2 hr
  go_enter Tryz.func8, Tryz.ntmps8
  go_wp2_with fail
  go_loopw [5, 13] (fun _ i wr => SiAt2 z.length w i wr) (fun _ i _ => z.length - (intOf i).toNat)
  case atStart => exact ⟨0, Nat.zero_le _, rfl, Kit.Dn.refl _⟩
  case round =>
    obtain ⟨k, hk, rfl, hd⟩ := hrel
    have HD := Lib.hid hd
    by_cases hlt : k < z.length
    · obtain ⟨b1, off1, rfl, _, hcell1⟩ := (H1.out.later hd.below).cells (by simp; omega)
      obtain ⟨b2, off2, rfl, _, hcell2⟩ := (H2.out.later hd.below).cells (by simp; omega)
      have hp1 : wr.cell? ⟨b1, off1 + k, none⟩ = some (.int .i64 (z.getD k 0)) := hcell1 k _ (intsV_get z k hlt)
      have hp2 : wr.cell? ⟨b2, off2 + k, none⟩ = some (.int .i64 (z.getD k 0)) := hcell2 k _ (intsV_get z k hlt)
      have hkr := HR.out k hlt
      have hk0 : (0 : Int) ≤ (k : Int) := by omega
      have hk1 : (k : Int) < (z.length : Int) := by omega
      generalize z.getD k 0 = p at *
      clear hcell1 hcell2 hd
      go_wp2_with fail
      go_quiet (fail)
      go_wp2_with fail
      go_roundw
      case rel => exact ⟨k + 1, by omega, by go_num, HD.out.add _⟩
      case measure => simp [intOf]; omega
    · obtain rfl : k = z.length := by omega
      go_wp2
      go_ret
      exact ⟨rfl, hd⟩
def KiAt (w : World) (i : Value) (wr : World) : Prop := ∃ k : Nat, k ≤ 4 ∧ i = .int .i64 k ∧ Kit.Dn w wr
theorem marksI_get (k : Nat) (hk : k < 4) : marksI.getD k 0 = -91 - k := by
  match k, hk with
  | 0, _ | 1, _ | 2, _ | 3, _ => rfl
  | n + 4, h => omega
end Go.Proofs.YtgifbpjmblemhaaGreatDoor
