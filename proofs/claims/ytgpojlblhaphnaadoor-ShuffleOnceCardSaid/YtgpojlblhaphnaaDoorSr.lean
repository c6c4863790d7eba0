/- A region that draws its order: what makes memory in any order (E), then what leans on all of that. A key's stream: the source, its blocks and numbers. A key's stream: numbers, and the code's Block and Number. A key's stream: a block xor another one, laid into a row; the first error of a list of blocks. The chapter's example of the stream: none of five, one of one. -/
import Derived.Test.YtgpojlblhaphnaaDoorRg
import Derived.Test.YtgpojlblhaphnaaDoorLy
namespace Go.Proofs.YtgpojlblhaphnaaDoor.Rg
open Go.RowKit
set_option linter.unusedVariables false
set_option linter.unusedSimpArgs false
theorem region_to {P : Program} {ops : Array Oper} {id : Nat} {Q : Exit → Act → World → Prop} {a : Act} {w : World} (hm : P.follows .mixedOrders = true) (E : Nat → Bool) (G : Nat → Value → World → Prop) (hok : okTo ops a.tmps.size E (fun _ => false) = true)
    (hkeep : ∀ i x v v', G i x v → Below v.heap.size v v' → G i x v')
    (hstep : ∀ (i : Nat) (o : Oper) (b : Act) (v : World), E i = true → ops[i]? = some o → Below w.heap.size w v → (∀ s, (∀ (i : Nat) (o : Oper), E i = true → ops[i]? = some o → o.dst ≠ some s) → b.tmps.getD s undef = a.tmps.getD s undef) →
      (∀ e ∈ o.after, Region.binds .any e = true → E e.on = true → ∀ (o' : Oper) (d : Tmp), ops[e.on]? = some o' → o'.dst = some d → G e.on (b.tmps.getD d undef) v) → Does P G Q i o b v)
    (hend : ∀ b v, Below w.heap.size w v → b.tmps.size = a.tmps.size → b.defers = a.defers → (∀ s, (∀ (i : Nat) (o : Oper), E i = true → ops[i]? = some o → o.dst ≠ some s) → b.tmps.getD s undef = a.tmps.getD s undef) →
      (∀ (i : Nat) (o : Oper) (d : Tmp), E i = true → ops[i]? = some o → o.dst = some d → G i (b.tmps.getD d undef) v) → wpAnyH P .any ops Q (fun _ => True) (left (tail ops.size E (fun _ => false))) (tail ops.size E (fun _ => false)) b v) :
    (Code.region id ops true).wp P Q a w := by
  have hb0 : Below w.heap.size w w.drew := (Below.refl _ _).drew
  refine wp_region_any hm (wpAny_of_held _ _ _ _ (any_to (S := fun _ => True) (a := a) (w := w.drew) (G := G) (N := a.tmps.size) hok (fun _ _ => trivial) hkeep
    (fun i o b v hE ho hb hr hd => hstep i o b v hE ho (hb0.trans hb) hr hd) (fun b v hb hs hd hr hg => hend b v (hb0.trans hb) hs hd hr hg) _ _ _ _ ?_ ⟨Below.refl _ _, rfl, rfl, fun _ _ => rfl, ?_, by simp, ?_, ?_⟩))
  · unfold left
    simp
  · intro i o d _ ho _ hl
    have hi := (Array.getElem?_eq_some_iff.1 ho).1
    simp [Array.getD_eq_getD_getElem?, hi] at hl
  · intro i _ hi
    simp [Array.getD_eq_getD_getElem?, hi]
  · intro i h
    cases h
/-- a row of values stored into a block -/
theorem op_store_row {P : Program} {ops : Array Oper} {Q : Exit → Act → World → Prop} {i g : Nat} {o : Oper} {ty t : TypeId} {x y : Operand} {cells old : Array Value} {b : Act} {v : World} {K : Act → World → Prop} (ho : ops[i]? = some o) (hg : o.guard = none)
    (hop : o.op = .store ty x y) (hx : b.eval x = .pointer (some ⟨g, 0, none⟩)) (hy : b.eval y = .agg cells) (hh : v.heap[g]? = some (.cells old t (0, 0))) (hi : (P.info? ty).map (·.size) = some cells.size) (hold : old.size = cells.size) (h1 : cells.all (·.oneCell') = true)
    (h : K (b.put o.dst undef) (v.setRow g cells)) : wpOp P ops Q i K b v := by
  unfold wpOp
  rw [ho]
  dsimp only
  rw [if_pos (by simp [Region.wanted, hg])]
  exact .inl (wp_store_row ty x y hop g cells hx hy t old hh hi hold h1 h)
theorem litG (a : Array Value) (n : Nat) (h : a.size = n) : a = ((List.range n).map fun i => a.getD i undef).toArray := by
  subst h
  apply Array.ext
  · simp
  · intro i h1 h2
    simp [Array.getD_eq_getD_getElem?, h1]
end Go.Proofs.YtgpojlblhaphnaaDoor.Rg
namespace Go.Proofs.YtgpojlblhaphnaaDoor.Da
/-- block n of a key's stream -/
def sb (k : List UInt8) (n : Int) : List UInt8 := (hmac k (num8 n)).take 8
/-- bytes as a number, the high one first -/
def nbe (l : List UInt8) : Nat := l.foldl (fun s b => s * 256 + b.toNat) 0
def sn (k : List UInt8) (n : Int) : Nat := nbe (sb k n)
theorem sb_length (k : List UInt8) (n : Int) : (sb k n).length = 8 := by simp [sb, hmac_length]
theorem nbe_zero (l : List UInt8) : nbe (l.take 0) = 0 := rfl
theorem nbe_step (l : List UInt8) (j : Nat) (hj : j < l.length) : nbe (l.take (j + 1)) = nbe (l.take j) * 256 + (l.getD j 0).toNat := by
  unfold nbe
  rw [List.take_add_one, List.getElem?_eq_getElem hj, List.foldl_append]
  simp [hj]
theorem nbe_lt (l : List UInt8) (j : Nat) : nbe (l.take j) < 256 ^ j := by
  induction j with
  | zero => simp [nbe]
  | succ j ih =>
    by_cases hj : j < l.length
    · rw [nbe_step l j hj, Nat.pow_succ]
      have := UInt8.toNat_lt (l.getD j 0)
      omega
    · rw [List.take_of_length_le (by omega), ← List.take_of_length_le (l := l) (i := j) (by omega)]
      exact Nat.lt_of_lt_of_le ih (Nat.pow_le_pow_right (by omega) (by omega))
theorem sn_lt (k : List UInt8) (n : Int) : sn k n < 2 ^ 64 := by
  have := nbe_lt (sb k n) 8
  rw [List.take_of_length_le (by rw [sb_length]; omega)] at this
  exact this
end Go.Proofs.YtgpojlblhaphnaaDoor.Da
namespace Go.Proofs.YtgpojlblhaphnaaDoor
open Go.RowKit
set_option linter.unusedVariables false
set_option linter.unusedSimpArgs false
theorem src_one (p : Nat) : (#[.pointer (some ⟨p, 0, none⟩)] : Array Value).all (·.oneCell') = true := all_oneCell_toArray (cs := [.pointer (some ⟨p, 0, none⟩)]) (fun u hu => by rw [List.mem_singleton] at hu; subst hu; rfl)
/-- what each operation has as its result -/
def SbG (k : List UInt8) (n : Int) (b p : Nat) (Z : Array Value) (base : Nat) (i : Nat) (x : Value) (v : World) : Prop :=
  match i with
  | 0 => x = .pointer (some ⟨b, 0, none⟩)
  | 1 => x = .pointer (some ⟨p, 0, none⟩)
  | 2 => x = .int .i64 n
  | 3 => RowV (Da.num8 n) x v
  | 4 => RbV [Da.num8 n] x v
  | 5 => x = .agg (bytesV (Da.hmac k (Da.num8 n))).toArray
  | 6 => ∃ g, x = .pointer (some ⟨g, 0, none⟩) ∧ base ≤ g ∧ v.heap[g]? = some (.cells Z 68 (0, 0))
  | _ => True
theorem SbG.later {k : List UInt8} {n : Int} {b p : Nat} {Z : Array Value} {base : Nat} (i : Nat) (x : Value) (v v' : World) (h : SbG k n b p Z base i x v) (hb : Below v.heap.size v v') : SbG k n b p Z base i x v' := by
  unfold SbG at *
  split at h
  · exact h
  · exact h
  · exact h
  · exact h.later hb
  · exact h.later hb
  · exact h
  · obtain ⟨g, e, hg, hh⟩ := h
    exact ⟨g, e, hg, by rw [hb.block _ (Array.getElem?_eq_some_iff.1 hh).1]; exact hh⟩
  · trivial
theorem lnum_rv {v : World} {x : Value} {n : Int} (hx : x = .int .i64 n) : Calls Tryd.prog 39 #[x] v fun e w' => ∃ r, e = .returned r ∧ RowV (Da.num8 n) r w' ∧ Below v.heap.size v w' := by
  subst hx
  refine (lnum_any n v).mono ?_
  rintro e w' ⟨rfl, hA, hb⟩
  have hr := hA.row (by rw [Da.num8_length]; unfold maxLen; decide)
  exact ⟨_, rfl, ⟨_, 8, by rw [Da.num8_length], by rw [Da.num8_length] at hr; exact hr⟩, hb⟩
theorem kofh_rv {v : World} {x y : Value} {k : List UInt8} {bs : List (List UInt8)} {p : Nat} (hA : Arr v p 67 (bytesV (Da.fil k))) (hx : x = .pointer (some ⟨p, 0, none⟩)) (hy : RbV bs y v) (hV : Cds v) (hl : bs.flatten.length ≤ 800000) (hn : bs.length ≤ 1000000) :
    Calls Tryd.prog 38 #[x, y] v fun e w' => ∃ r, e = .returned r ∧ r = .agg (bytesV (Da.hmac k bs.flatten)).toArray ∧ Below v.heap.size v w' := by
  subst hx
  obtain ⟨o, c, rfl, hR⟩ := hy
  refine (kofh_any k p bs o c v hA hR hV hl hn).mono ?_
  rintro e w' ⟨rfl, hb⟩
  exact ⟨_, rfl, rfl, hb⟩
end Go.Proofs.YtgpojlblhaphnaaDoor
namespace Go.Proofs.YtgpojlblhaphnaaDoor
open Go.RowKit
set_option linter.unusedVariables false
set_option linter.unusedSimpArgs false
theorem or_u64 (p q : Nat) (hp : p < 2 ^ 64) (hq : q < 2 ^ 64) : bits .or .u64 (p : Int) (q : Int) = ((p ||| q : Nat) : Int) := by
  have hx : p ||| q < 2 ^ 64 := Nat.or_lt_two_pow hp hq
  have hp' : p % 2 ^ IntKind.u64.bits = p := Nat.mod_eq_of_lt (by show p < 2 ^ 64; omega)
  have hq' : q % 2 ^ IntKind.u64.bits = q := Nat.mod_eq_of_lt (by show q < 2 ^ 64; omega)
  simp only [bits, BitVec.ofInt_natCast, BitVec.toNat_or, BitVec.toNat_ofNat, hp', hq']
  rw [IntKind.wrap_u64]
  omega
theorem or_add (p q : Nat) (hq : q < 256) : p * 256 ||| q = p * 256 + q := by
  have := Nat.shiftLeft_add_eq_or_of_lt (i := 8) (b := q) (by omega) p
  rw [Nat.shiftLeft_eq] at this
  exact this.symm
def SnAt (l : List UInt8) (w : World) (s i : Value) (wr : World) : Prop :=
  ∃ j : Nat, j ≤ 8 ∧ i = .int .i64 j ∧ s = .int .u64 (Da.nbe (l.take j) : Nat) ∧ Below w.heap.size w wr
end Go.Proofs.YtgpojlblhaphnaaDoor
namespace Go.Proofs.YtgpojlblhaphnaaDoor.Da
/-- the error's number of a number -/
def rb (n : Int) : Nat := if inR n then 0 else 1
/-- the error's number of a block to be masked -/
def mb (b : List UInt8) (n : Int) : Nat := if b.length = 8 then rb n else 8
theorem rb_le (n : Int) : rb n ≤ 20 := by unfold rb; split <;> omega
theorem mb_le (b : List UInt8) (n : Int) : mb b n ≤ 20 := by unfold mb; split <;> first | exact rb_le n | omega
theorem rb_zero {n : Int} (h : rb n = 0) : 0 ≤ n ∧ n ≤ 1099511627776 := by
  unfold rb inR at h
  split at h
  · rename_i h1; simpa using h1
  · cases h
theorem mb_zero {b : List UInt8} {n : Int} (h : mb b n = 0) : b.length = 8 ∧ rb n = 0 := by
  unfold mb at h
  split at h
  · exact ⟨by assumption, h⟩
  · cases h
end Go.Proofs.YtgpojlblhaphnaaDoor.Da
namespace Go.Proofs.YtgpojlblhaphnaaDoor.Er
open Go.RowKit
/-- the sentinels of a stream -/
structure E10 (W : World) (A : Nat → Addr) : Prop where
  c0 : W.cell? ⟨0, 0, none⟩ = some (.iface 98 (.pointer (some (A 0))))
  c7 : W.cell? ⟨7, 0, none⟩ = some (.iface 98 (.pointer (some (A 7))))
theorem E10.later {W W' : World} {A : Nat → Addr} (h : E10 W A) (hb : Below W.heap.size W W') : E10 W' A := ⟨cell_later h.c0 hb, cell_later h.c7 hb⟩
theorem Errs.ten {W : World} {A : Nat → Addr} (h : Errs W A) : E10 W A := ⟨h.c0, h.c7⟩
end Go.Proofs.YtgpojlblhaphnaaDoor.Er
namespace Go.Proofs.YtgpojlblhaphnaaDoor
open Go.RowKit
set_option linter.unusedVariables false
set_option linter.unusedSimpArgs false
/-- number n, or 0 -/
def Da.snr (k : List UInt8) (n : Int) : Nat := if inR n then sn k n else 0
end Go.Proofs.YtgpojlblhaphnaaDoor
namespace Go.Proofs.YtgpojlblhaphnaaDoor.Da
/-- one block xor another one -/
def xr (a b : List UInt8) : List UInt8 := List.zipWith (· ^^^ ·) a b
/-- a list, with x from place o on -/
def putL (Z : List UInt8) (o : Nat) (x : List UInt8) : List UInt8 := Z.take o ++ x ++ Z.drop (o + x.length)
theorem xr_length (a b : List UInt8) : (xr a b).length = min a.length b.length := by simp [xr]
theorem xr_at (a b : List UInt8) (j : Nat) (ha : j < a.length) (hb : j < b.length) : (xr a b).getD j 0 = a.getD j 0 ^^^ b.getD j 0 := by
  have hx : j < (xr a b).length := by rw [xr_length]; omega
  simp [xr, List.getElem?_zipWith, ha, hb]
theorem xr_twice (a b : List UInt8) (h : a.length ≤ b.length) : xr (xr a b) b = a := by
  apply List.ext_getElem
  · simp [xr]; omega
  · intro i h1 h2
    simp [xr, UInt8.xor_assoc]
theorem putL_nil (Z : List UInt8) (o : Nat) : putL Z o [] = Z := by simp [putL]
theorem putL_length (Z : List UInt8) (o : Nat) (x : List UInt8) (h : o + x.length ≤ Z.length) : (putL Z o x).length = Z.length := by simp [putL]; omega
theorem putL_step (Z : List UInt8) (o : Nat) (x : List UInt8) (j : Nat) (hj : j < x.length) (h : o + x.length ≤ Z.length) : (putL Z o (x.take j)).set (o + j) (x.getD j 0) = putL Z o (x.take (j + 1)) := by
  apply List.ext_getElem
  · rw [List.length_set, putL_length _ _ _ (by simp; omega), putL_length _ _ _ (by simp; omega)]
  · intro i h1 h2
    rw [List.getElem_set]
    simp only [putL, List.length_take, List.append_assoc]
    by_cases e : o + j = i
    · subst e
      have m1 : min o Z.length = o := by omega
      have m3 : min (j + 1) x.length = j + 1 := by omega
      simp only [List.getElem_append, List.length_take, List.getElem_take, List.getElem_drop, m1, m3, show ¬ o + j < o by omega, show o + j - o < j + 1 by omega, dif_pos, dif_neg, not_false_eq_true]
      simp [hj]
    · rw [if_neg e]
      simp only [List.getElem_append, List.length_take, List.getElem_take, List.getElem_drop]
      have m1 : min o Z.length = o := by omega
      have m2 : min j x.length = j := by omega
      have m3 : min (j + 1) x.length = j + 1 := by omega
      simp only [m1, m2, m3]
      by_cases c1 : i < o
      · simp [c1]
      · by_cases c2 : i - o < j
        · simp [c1, c2, show i - o < j + 1 by omega]
        · simp only [c1, c2, show ¬ i - o < j + 1 by omega, dif_neg, not_false_eq_true]
          congr 1
          omega
end Go.Proofs.YtgpojlblhaphnaaDoor.Da
namespace Go.Proofs.YtgpojlblhaphnaaDoor
open Go.RowKit
set_option linter.unusedVariables false
set_option linter.unusedSimpArgs false
theorem grown_trans {w1 w2 w3 : World} {r : Option Nat} (h1 : w1.grownBy w2 r) (h2 : w2.grownBy w3 r) : w1.grownBy w3 r :=
  ⟨h2.os.trans h1.os, h2.tape.trans h1.tape, h2.output.trans h1.output, Nat.le_trans h1.size h2.size, fun k hk hr => (h2.block k (Nat.lt_of_lt_of_le hk h1.size) hr).trans (h1.block k hk hr)⟩
def Ly10At (Z x : List UInt8) (g o : Nat) (w : World) (i : Value) (wr : World) : Prop :=
  ∃ j : Nat, j ≤ 8 ∧ i = .int .i64 j ∧ Arr wr g 5 (bytesV (Da.putL Z o (x.take j))) ∧ w.grownBy wr (some g)
end Go.Proofs.YtgpojlblhaphnaaDoor
namespace Go.Proofs.YtgpojlblhaphnaaDoor.Da
/-- the first error of a list of blocks -/
def mbs (n : Int) : List (List UInt8) → Nat
  | [] => 0
  | b :: t => if mb b n = 0 then mbs (n + 1) t else mb b n
/-- a block masked -/
def mk8 (k : List UInt8) (n : Int) (b : List UInt8) : List UInt8 := xr b (sb k n)
/-- blocks masked -/
def mkL (k : List UInt8) (n : Int) : List (List UInt8) → List (List UInt8)
  | [] => []
  | b :: t => mk8 k n b :: mkL k (n + 1) t
theorem mbs_le (n : Int) (l : List (List UInt8)) : mbs n l ≤ 20 := by
  induction l generalizing n with
  | nil => simp [mbs]
  | cons b t ih => unfold mbs; split <;> first | exact ih _ | exact mb_le b n
theorem mkL_length (k : List UInt8) (n : Int) (l : List (List UInt8)) : (mkL k n l).length = l.length := by
  induction l generalizing n with
  | nil => rfl
  | cons b t ih => simp [mkL, ih]
theorem mk8_length {k : List UInt8} {n : Int} {b : List UInt8} (h : b.length = 8) : (mk8 k n b).length = 8 := by rw [mk8, xr_length, sb_length, h]; rfl
theorem mk8_twice (k : List UInt8) (n : Int) (b : List UInt8) (h : b.length = 8) : mk8 k n (mk8 k n b) = b := xr_twice b (sb k n) (by rw [sb_length]; omega)
theorem mbs_mkL (k : List UInt8) (n : Int) (l : List (List UInt8)) (h : mbs n l = 0) : mbs n (mkL k n l) = 0 ∧ mkL k n (mkL k n l) = l := by
  induction l generalizing n with
  | nil => exact ⟨rfl, rfl⟩
  | cons b t ih =>
    unfold mbs at h
    split at h
    · rename_i hb
      obtain ⟨h8, hr⟩ := mb_zero hb
      obtain ⟨i1, i2⟩ := ih _ h
      constructor
      · rw [mkL, mbs, if_pos (by unfold mb; rw [if_pos (mk8_length h8)]; exact hr)]
        exact i1
      · rw [mkL, mkL, mk8_twice k n b h8, i2]
    · rename_i hb
      exact absurd h hb
theorem bi_at (l : List (List UInt8)) (p : Nat) (hp : p < l.length) : bi l p = l[p] := by simp [bi, hp]
theorem mbs_drop (n : Int) (l : List (List UInt8)) (p : Nat) (hp : p < l.length) : mbs (n + p) (l.drop p) = if mb (bi l p) (n + p) = 0 then mbs (n + (p + 1 : Nat)) (l.drop (p + 1)) else mb (bi l p) (n + p) := by
  rw [List.drop_eq_getElem_cons hp, mbs, ← bi_at l p hp, show n + (p : Int) + 1 = n + ((p + 1 : Nat) : Int) by omega]
theorem mbs_all (n : Int) (l : List (List UInt8)) (h : mbs n l = 0) (p : Nat) (hp : p < l.length) : mb (bi l p) (n + p) = 0 := by
  induction l generalizing n p with
  | nil => simp at hp
  | cons b t ih =>
    unfold mbs at h
    split at h
    · rename_i hb
      cases p with
      | zero => simpa [bi] using hb
      | succ p =>
        have := ih (n + 1) h p (by simpa using hp)
        rw [show n + 1 + (p : Int) = n + ((p + 1 : Nat) : Int) by omega] at this
        simpa [bi] using this
    · rename_i hb
      exact absurd h hb
theorem mkL_at (k : List UInt8) (n : Int) (l : List (List UInt8)) (p : Nat) (hp : p < l.length) : bi (mkL k n l) p = mk8 k (n + p) (bi l p) := by
  induction l generalizing n p with
  | nil => simp at hp
  | cons b t ih =>
    cases p with
    | zero => simp [bi, mkL]
    | succ p =>
      have := ih (n + 1) p (by simpa using hp)
      rw [show n + 1 + (p : Int) = n + ((p + 1 : Nat) : Int) by omega] at this
      simpa [bi, mkL] using this
theorem mkL_take (k : List UInt8) (n : Int) (l : List (List UInt8)) (p : Nat) (hp : p < l.length) : mkL k n (l.take (p + 1)) = mkL k n (l.take p) ++ [mk8 k (n + p) (bi l p)] := by
  induction l generalizing n p with
  | nil => simp at hp
  | cons b t ih =>
    cases p with
    | zero => simp [bi, mkL]
    | succ p =>
      have := ih (n + 1) p (by simpa using hp)
      rw [show n + 1 + (p : Int) = n + ((p + 1 : Nat) : Int) by omega] at this
      simpa [bi, mkL] using this
end Go.Proofs.YtgpojlblhaphnaaDoor.Da
namespace Go.Proofs.YtgpojlblhaphnaaDoor.Da
theorem putL_at (Z : List UInt8) (o : Nat) (x : List UInt8) (h : o + x.length ≤ Z.length) : ((putL Z o x).drop o).take x.length = x := by
  unfold putL
  rw [List.append_assoc, List.drop_append_of_le_length (by simp; omega), List.drop_of_length_le (by simp; omega), List.nil_append, List.take_left]
theorem putL_ahead (Z : List UInt8) (o : Nat) (x : List UInt8) (i m : Nat) (h : o + x.length ≤ Z.length) (hi : i + m ≤ o) : ((putL Z o x).drop i).take m = (Z.drop i).take m := by
  unfold putL
  rw [List.append_assoc, List.drop_append_of_le_length (by simp; omega), List.take_append_of_le_length (by simp; omega), List.drop_take, List.take_take, Nat.min_eq_left (by omega)]
end Go.Proofs.YtgpojlblhaphnaaDoor.Da
namespace Go.Proofs.YtgpojlblhaphnaaDoor
open Go.RowKit
/-- blocks of values of other types are apart -/
theorem arr_apart {W : World} {a b : Nat} {T U : TypeId} {xs ys : List Value} (h : Arr W a T xs) (k : Arr W b U ys) (hn : T ≠ U) : a ≠ b := fun e => by
  subst e
  have := h.symm.trans k
  cases this
  exact hn rfl
theorem arr_setRow {W : World} {a b : Nat} {T : TypeId} {xs : List Value} (h : Arr W a T xs) (hn : a ≠ b) (C : Array Value) : Arr (W.setRow b C) a T xs := by
  unfold Arr
  rw [setRow_other _ _ _ _ hn]
  exact h
theorem made_rows (n : Nat) : (madeCells (Value.slice none 0 0).cells (n * 1)).toList = List.replicate n (.slice none 0 0) := by
  rw [Nat.mul_one]
  exact toList_madeCells_one _ _
/-- headers of a row whose blocks lie behind one another, the first p of them -/
def hdrs (g N p : Nat) : List Value := (List.range N).map fun i => if i < p then .slice (some ⟨g, 8 * i, none⟩) 8 8 else .slice none 0 0
theorem hdrs_length (g N p : Nat) : (hdrs g N p).length = N := by simp [hdrs]
theorem hdrs_zero (g N : Nat) : hdrs g N 0 = List.replicate N (.slice none 0 0) := by
  apply List.ext_getElem
  · simp [hdrs]
  · intro i h1 h2
    simp [hdrs]
theorem hdrs_at (g N p i : Nat) (hi : i < N) : (hdrs g N p)[i]? = some (if i < p then .slice (some ⟨g, 8 * i, none⟩) 8 8 else .slice none 0 0) := by simp [hdrs, hi]
theorem hdrs_step (g N p : Nat) : (hdrs g N p).set p (.slice (some ⟨g, 8 * p, none⟩) 8 8) = hdrs g N (p + 1) := by
  apply List.ext_getElem
  · simp [hdrs]
  · intro i h1 h2
    rw [List.getElem_set]
    by_cases e : p = i
    · subst e
      simp [hdrs]
    · rw [if_neg e]
      simp only [hdrs, List.getElem_map, List.getElem_range]
      by_cases c : i < p
      · rw [if_pos c, if_pos (by omega)]
      · rw [if_neg c, if_neg (by omega)]
end Go.Proofs.YtgpojlblhaphnaaDoor
namespace Go.Proofs.YtgpojlblhaphnaaDoor
open Go.RowKit
set_option linter.unusedVariables false
set_option linter.unusedSimpArgs false
theorem info_int10 : (Tryd.prog.info? 3).map (fun i => (i.zero, i.size, i.bytes)) = some (some (.int .i64 0), 1, 8) := by kernel_rfl
/-- the row 0 to n - 1, of which the first j are there -/
def rsL (n j : Nat) : List Value := (List.range n).map fun i => .int .i64 (if i < j then (i : Int) else 0)
theorem rsL_zero (n : Nat) : rsL n 0 = List.replicate n (.int .i64 0) := by
  apply List.ext_getElem
  · simp [rsL]
  · intro i h1 h2
    simp [rsL]
theorem rsL_at (n j i : Nat) (hi : i < n) : (rsL n j)[i]? = some (.int .i64 (if i < j then (i : Int) else 0)) := by simp [rsL, hi]
theorem rsL_step (n j : Nat) : (rsL n j).set j (.int .i64 j) = rsL n (j + 1) := by
  apply List.ext_getElem
  · simp [rsL]
  · intro i h1 h2
    rw [List.getElem_set]
    by_cases e : j = i
    · subst e
      simp [rsL]
    · rw [if_neg e]
      simp only [rsL, List.getElem_map, List.getElem_range]
      by_cases c : i < j
      · rw [if_pos c, if_pos (by omega)]
      · rw [if_neg c, if_neg (by omega)]
theorem made_ints (n : Nat) : (madeCells #[.int .i64 0] n).toList = List.replicate n (.int .i64 0) := by
  rw [toList_madeCells_one]
def RsAt10 (n g : Nat) (w : World) (i : Value) (wr : World) : Prop := ∃ j : Nat, j ≤ n ∧ i = .int .i64 j ∧ Arr wr g 3 (rsL n j) ∧ Below w.heap.size w wr
end Go.Proofs.YtgpojlblhaphnaaDoor
