/- ShaDigests. -/
import Derived.Test.YtalilmnpobgffaaDoorHp
import Derived.Test.YtalilmnpobgffaaDoorAl7
import Derived.Maps.AppendAt
import Derived.Stop.BytesEq
namespace Go.Proofs.YtalilmnpobgffaaDoor
open Go.RowKit
set_option linter.unusedVariables false
set_option linter.unusedSimpArgs false
/-- append, and where the row then lies -/
theorem append_row_at {ops : Array Oper} {rest : List Oper} {o : Oper} {a : Act} {Q : Exit → Act → World → Prop} {w : World} (hgd : o.guard = none) (s x : Operand)
    (ho : o.op = .call { callee := .builtin .append, args := #[s, x], argTypes := #[24, 24] })
    (base : Nat) (v : Value) (n : Nat) (z : List UInt8) (hs : a.eval s = v) (hown : w.ownsRow base 5 1 v n (bytesV z))
    (ad : Option Addr) (m c : Nat) (y : List UInt8) (hx : a.eval x = .slice ad m c) (hm : m = y.length) (hrow : RowIs w ad (bytesV y) c) (hl : n + m ≤ 10000000) (hbase : base ≤ w.heap.size)
    (h : ∀ v' w', w'.ownsRow base 5 1 v' (n + m) (bytesV (z ++ y)) → w.grownBy w' v.ownBlock → (v'.ownBlock = v.ownBlock ∨ v'.ownBlock = some w.heap.size) → wpList Tryd.prog ops Q rest (a.put o.dst v') w') : wpList Tryd.prog ops Q (o :: rest) a w := by
  obtain ⟨i0, hi, hz0, hz1, hz2⟩ := info_parts info_u8
  have e : bytesV (z ++ y) = bytesV z ++ bytesV y := by simp [bytesV]
  rw [e] at h
  subst hm
  cases ad with
  | none =>
    have h0 := hrow.nil rfl
    have hle := hrow.le
    simp only [bytesV_length] at hle
    obtain rfl : y = [] := List.eq_nil_of_length_eq_zero (by omega)
    subst h0
    refine wpList_append_own_none hgd s x 24 ho base 5 i0 1 Tryd.underlying24 hi v n (bytesV z) hs hown hx ?_
    exact h v w (by simpa [bytesV] using hown) ⟨rfl, rfl, rfl, Nat.le_refl _, fun _ _ _ => rfl⟩ (.inl rfl)
  | some ad =>
    refine wpList_append_own_at w hgd s x 24 ho base 5 i0 (.int .u8 0) 1 1 Tryd.underlying24 hi hz0 hz1 hz2 rfl (by decide) v n (bytesV z) hs hown ad y.length c (bytesV y) hx (by simp) (hrow.adds ad rfl) (bytesV_one y) (by unfold maxLen; omega) (by omega) hbase ?_
    intro v' w' h1 h2 _ h4
    exact h v' w' h1 h2 h4
theorem below_new0 (w : World) (o : Obj) : Below w.heap.size w (w.alloc o) := (Below.refl _ _).alloc (Nat.le_refl _) _
theorem own_kept {T : TypeId} {base n : Nat} {W W' : World} {v : Value} {xs : List Value} {r : Option Nat} (h : W.ownsRow base T 1 v n xs) (hg : W.grownBy W' r) (hne : v.ownBlock = none ∨ v.ownBlock ≠ r) : W'.ownsRow base T 1 v n xs := by
  obtain ⟨hl, hx⟩ := h
  refine ⟨hl, ?_⟩
  rcases hx with h0 | ⟨g, cap, cur, rfl, hb, hh, rest⟩
  · exact .inl h0
  · refine .inr ⟨g, cap, cur, rfl, hb, ?_, rest⟩
    rw [hg.block g (Array.getElem?_eq_some_iff.1 hh).1 (by rcases hne with h | h; (· cases h); exact h)]
    exact hh
theorem own_apart {T T' : TypeId} {X : World} {b b' n n' : Nat} {v v' : Value} {xs xs' : List Value} (h : X.ownsRow b T 1 v n xs) (h' : X.ownsRow b' T' 1 v' n' xs') (hT : T ≠ T') : v.ownBlock = none ∨ v.ownBlock ≠ v'.ownBlock := by
  rcases h.2 with ⟨rfl, _⟩ | ⟨g, cap, cur, rfl, _, h1, _⟩
  · exact .inl rfl
  · refine .inr fun e => ?_
    rcases h'.2 with ⟨rfl, _⟩ | ⟨g', cap', cur', rfl, _, h2, _⟩
    · cases e
    · cases e
      rw [h1] at h2
      injection h2 with h2
      injection h2 with _ h2 _
      exact hT h2
theorem mark_apart {T : TypeId} {X : World} {b n B : Nat} {v : Value} {xs : List Value} {z : List UInt8} (h : X.ownsRow b T 1 v n xs) (hM : MarkedAt X B z) (hT : T ≠ 5) : some B ≠ v.ownBlock := fun e => by
  rcases h.2 with ⟨rfl, _⟩ | ⟨g, cap, cur, rfl, _, h1, _⟩
  · cases e
  · cases e
    unfold MarkedAt at hM
    rw [hM] at h1
    injection h1 with h1
    injection h1 with _ h1 _
    exact hT h1.symm
theorem mark_kept {W W' : World} {B : Nat} {z : List UInt8} {r : Option Nat} (h : MarkedAt W B z) (hg : W.grownBy W' r) (hne : some B ≠ r) : MarkedAt W' B z := by
  unfold MarkedAt
  rw [hg.block B h.lt hne]; exact h
def hdr7 (bs : List (List UInt8)) (Bs : Nat → Nat) (i : Nat) : Value := .slice (some ⟨Bs i, 0, none⟩) (bi bs i).length ((bi bs i).length + 6)
def hdrs7 (bs : List (List UInt8)) (Bs : Nat → Nat) (k : Nat) : List Value := (List.range k).map (hdr7 bs Bs)
theorem hdrs7_length (bs : List (List UInt8)) (Bs : Nat → Nat) (k : Nat) : (hdrs7 bs Bs k).length = k := by simp [hdrs7]
/-- all bytes, and the copies of each part -/
structure In1 (bs : List (List UInt8)) (W wr : World) (v v2 : Value) (ka ki : Nat) (Bs : Nat → Nat) : Prop where
  all : wr.ownsRow W.heap.size 5 1 v (bs.take ka).flatten.length (bytesV (bs.take ka).flatten)
  ins : wr.ownsRow W.heap.size 24 1 v2 ki (hdrs7 bs Bs ki)
  mkd : ∀ i, i < ki → MarkedAt wr (Bs i) (bi bs i)
  old : ∀ i, i < ki → W.heap.size ≤ Bs i
  ne : ∀ i, i < ki → some (Bs i) ≠ v.ownBlock
  below : Below W.heap.size W wr
theorem In1.later {bs : List (List UInt8)} {W wr w' : World} {v v2 : Value} {ka ki : Nat} {Bs : Nat → Nat} (h : In1 bs W wr v v2 ka ki Bs) (hb : Below wr.heap.size wr w') : In1 bs W w' v v2 ka ki Bs := by
  have hg : wr.grownBy w' none := grown_below (B := 0) hb
  exact ⟨own_kept h.all hg (by cases h : v.ownBlock; (· exact .inl rfl); exact .inr (by simp)), own_kept h.ins hg (by cases h : v2.ownBlock; (· exact .inl rfl); exact .inr (by simp)), fun i hi => mark_kept (h.mkd i hi) hg (by simp), h.old, h.ne, Kit.step h.below hb⟩
theorem In1.app {bs : List (List UInt8)} {W wr w' : World} {v v2 v' : Value} {ka ki : Nat} {Bs : Nat → Nat} (h : In1 bs W wr v v2 ka ki Bs) (hv : w'.ownsRow W.heap.size 5 1 v' (bs.take (ka + 1)).flatten.length (bytesV (bs.take (ka + 1)).flatten))
    (hg : wr.grownBy w' v.ownBlock) (hat : v'.ownBlock = v.ownBlock ∨ v'.ownBlock = some wr.heap.size) : In1 bs W w' v' v2 (ka + 1) ki Bs :=
  ⟨hv, own_kept h.ins hg (own_apart h.ins h.all (by decide)), fun i hi => mark_kept (h.mkd i hi) hg (h.ne i hi), h.old, fun i hi e => by
    rcases hat with h1 | h1
    · exact h.ne i hi (e.trans h1)
    · rw [h1] at e; have e := Option.some.inj e; have := (h.mkd i hi).lt; omega, own_below (n := 0) h.below h.all hg⟩
theorem In1.hdr {bs : List (List UInt8)} {W wr w' : World} {v v2 v' : Value} {ka ki B : Nat} {Bs : Nat → Nat} (h : In1 bs W wr v v2 ka ki Bs) (hM : MarkedAt wr B (bi bs ki)) (hB : W.heap.size ≤ B) (hn : some B ≠ v.ownBlock)
    (hv : w'.ownsRow W.heap.size 24 1 v' (ki + 1) (hdrs7 bs Bs ki ++ [.slice (some ⟨B, 0, none⟩) (bi bs ki).length ((bi bs ki).length + 6)])) (hg : wr.grownBy w' v2.ownBlock) :
    In1 bs W w' v v' ka (ki + 1) (fun i => if i = ki then B else Bs i) := by
  refine ⟨own_kept h.all hg (own_apart h.all h.ins (by decide)), ?_, fun i hi => ?_, fun i hi => ?_, fun i hi => ?_, own_belowB h.below h.ins hg⟩
  · have e : hdrs7 bs (fun i => if i = ki then B else Bs i) (ki + 1) = hdrs7 bs Bs ki ++ [.slice (some ⟨B, 0, none⟩) (bi bs ki).length ((bi bs ki).length + 6)] := by
      unfold hdrs7
      rw [List.range_succ, List.map_append]
      congr 1
      · refine List.map_congr_left fun i hi => ?_
        have : i < ki := by simpa using hi
        simp [hdr7, show i ≠ ki by omega]
      · simp [hdr7]
    rw [e]; exact hv
  · by_cases e : i = ki
    · subst e; simp only [if_true]; exact mark_kept hM hg (mark_apart h.ins hM (by decide))
    · simp only [if_neg e]; exact mark_kept (h.mkd i (by omega)) hg (mark_apart h.ins (h.mkd i (by omega)) (by decide))
  · by_cases e : i = ki
    · subst e; simp only [if_true]; exact hB
    · simp only [if_neg e]; exact h.old i (by omega)
  · by_cases e : i = ki
    · subst e; simp only [if_true]; exact hn
    · simp only [if_neg e]; exact h.ne i (by omega)
/-- the copies are parts -/
theorem In1.row {bs : List (List UInt8)} {W wr : World} {v v2 : Value} {ka ki : Nat} {Bs : Nat → Nat} (h : In1 bs W wr v v2 ka ki Bs) (hs : ∀ i, i < ki → (bi bs i).length ≤ 500) (hk : ki = bs.length) : RbV bs v2 wr := by
  obtain ⟨o, c, e, hr⟩ := owns_is h.ins (by rw [hdrs7_length])
  rw [hk] at e
  refine ⟨o, c, e, hdrs7 bs Bs ki, hr, ⟨by rw [hdrs7_length, hk], fun i x hx => ?_⟩⟩
  have hi : i < ki := by
    have := (List.getElem?_eq_some_iff.1 hx).1
    rwa [hdrs7_length] at this
  have hx' : x = hdr7 bs Bs i := by
    unfold hdrs7 at hx
    rw [List.getElem?_map, List.getElem?_range hi] at hx
    exact (Option.some.inj hx).symm
  subst hx'
  exact ⟨_, _, rfl, (h.mkd i hi).row (by have := hs i hi; unfold maxLen; omega)⟩
theorem d32_eql (xs ys : List UInt8) (hx : xs.length = 32) (hy : ys.length = 32) (w : World) : (binOp .eql 26 (.agg (bytesV xs).toArray) (.agg (bytesV ys).toArray)).run Tryd.prog w = .ok (.bool (xs == ys)) w :=
  run_eql_bytes w 26 5 32 d32_under Tryd.underlying5 (fun w => by
    obtain ⟨i0, hi, _, hz1, _⟩ := info_parts info_u8
    simp [sizeOf, typeInfo, hi, hz1]) xs ys hx hy
theorem d32_neq (xs ys : List UInt8) (hx : xs.length = 32) (hy : ys.length = 32) (w : World) : (binOp .neq 26 (.agg (bytesV xs).toArray) (.agg (bytesV ys).toArray)).run Tryd.prog w = .ok (.bool (!(xs == ys))) w := by
  have h := run_equalIn_bytes (P := Tryd.prog) w 9998 26 5 32 d32_under Tryd.underlying5 (fun w => by
    obtain ⟨i0, hi, _, hz1, _⟩ := info_parts info_u8
    simp [sizeOf, typeInfo, hi, hz1]) xs ys hx hy
  have h' : (Op.equalIn 10000 26 (.agg (bytesV xs).toArray) (.agg (bytesV ys).toArray)).run Tryd.prog w = .ok (xs == ys) w := h
  rw [run_neq_struct, h']
  rfl
theorem ptr_same {P : Program} (d : Nat) (t elem : TypeId) (n : Nat) (hn : n ≠ 0) (ht : P.underlying t = some (.pointer elem)) (hz : ∀ w, (sizeOf elem).run P w = .ok n w) (a : Addr) (w : World) :
    (Op.equalIn (d + 1) t (.pointer (some a)) (.pointer (some a))).run P w = .ok true w := by
  simp [Op.equalIn, run_underlying ht, hz, hn, sameAddr, Sem.run_bind]
theorem ptr_neq (a : Addr) (w : World) : (binOp .neq 30 (.pointer (some a)) (.pointer (some a))).run Tryd.prog w = .ok (.bool false) w := by
  have h : (Op.equal 30 (.pointer (some a)) (.pointer (some a))).run Tryd.prog w = .ok true w := ptr_same 9999 30 55 73 (by decide) Tryd.underlying30 (fun w => by kernel_rfl) a w
  simp only [binOp]
  simp [h]
theorem d32_guard : Tryd.prog.eqGuardType Tryd.prog.depth 26 = false := by kernel_rfl
def Sd1 (bs : List (List UInt8)) (W : World) (v v2 i : Value) (wr : World) : Prop :=
  ∃ (k : Nat) (Bs : Nat → Nat), k ≤ bs.length ∧ i = .int .i64 k ∧ In1 bs W wr v v2 k k Bs ∧ ∀ j, j < k → (bi bs j).length ≤ 500
theorem RowIs.pre {W : World} {o : Option Addr} {A : List UInt8} {c : Nat} (h : RowIs W o (bytesV A) c) (n : Nat) (hn : n ≤ A.length) : RowIs W o (bytesV (A.take n)) c := by
  have hle := h.le
  simp only [bytesV_length] at hle
  refine ⟨by rw [bytesV_length, List.length_take]; omega, h.cap, h.nil, fun h0 => ?_⟩
  have h1 : 0 < n ∧ 0 < A.length := by rw [bytesV_length, List.length_take] at h0; omega
  obtain ⟨b, off, e, hlt, hc⟩ := h.cells (by rw [bytesV_length]; exact h1.2)
  refine ⟨b, off, e, hlt, fun i v hv => hc i v ?_⟩
  have hi : i < n := by have := (List.getElem?_eq_some_iff.1 hv).1; rw [bytesV_length, List.length_take] at this; omega
  rw [← hv]
  simp [bytesV, List.getElem?_take, hi]
def Sd2 (bs : List (List UInt8)) (gh : Nat) (X : World) (n i : Value) (wr : World) : Prop :=
  ∃ k : Nat, k ≤ bs.length ∧ n = .int .i64 ((bs.take k).flatten.length : Int) ∧ i = .int .i64 k ∧ Hash wr gh (bs.take k).flatten ∧ Below X.heap.size X wr
theorem flat_small (bs : List (List UInt8)) (k : Nat) (hk : k ≤ bs.length) (h : ∀ j, j < k → (bi bs j).length ≤ 500) : (bs.take k).flatten.length ≤ 500 * k := by
  induction k with
  | zero => simp
  | succ k ih =>
    rw [flat_step bs k (by omega), List.length_append]
    have := ih (by omega) (fun j hj => h j (by omega))
    have := h k (by omega)
    omega
set_option maxRecDepth 100000 in
set_option maxHeartbeats 4000000 in
theorem sd_of (Z : Array Value) (hZ : Z = (bytesV (List.replicate 32 0)).toArray) (hzs : ∀ w, Sem.run Tryd.prog (zeroValue 26) w = .ok (.agg Z) w) (bs : List (List UInt8)) (o : Option Addr) (c : Nat) (W : World) (hR : RbIs W o bs c) (hC : Cds W) (hD : Rds W) :
    Calls Tryd.prog 3 #[.slice o bs.length c] W fun e w' => e = .returned (.bool true) ∧ Below W.heap.size W w' := by
  have HR := Lib.hid hR
  have HC := Lib.hid hC
  have HD := Lib.hid hD
  have hle := hR.le
  unfold maxLen at hle
  have HZ := Lib.hid hZ
  clear hR hC hD hZ
  go_enter Tryd.func3, Tryd.ntmps3
  go_wp2_with fail
  refine (alive7_any W HC.out).mono ?_
  rintro e W1 ⟨rfl, hb1⟩
  have HB1 := Lib.hid hb1
  clear hb1
  by_cases hn : 20 < bs.length
  · go_wp2_with fail
    go_ret
    exact ⟨rfl, HB1.out⟩
  · have hnl : ¬ (bs.length : Int) > 20 := by omega
    obtain ⟨W2, hW2⟩ : ∃ W2, W1.alloc (.cells #[] 5) = W2 := ⟨_, rfl⟩
    obtain ⟨W3, hW3⟩ : ∃ W3, W2.alloc (.cells #[] 24) = W3 := ⟨_, rfl⟩
    have hI : In1 bs W W3 (.slice (some ⟨W1.heap.size, 0, none⟩) 0 0) (.slice (some ⟨W2.heap.size, 0, none⟩) 0 0) 0 0 (fun _ => 0) := by
      have h2 : Below W1.heap.size W1 W2 := by rw [← hW2]; exact below_new0 _ _
      have h3 : Below W2.heap.size W2 W3 := by rw [← hW3]; exact below_new0 _ _
      refine ⟨?_, ?_, fun i hi => absurd hi (by omega), fun i hi => absurd hi (by omega), fun i hi => absurd hi (by omega), Kit.step (Kit.step HB1.out h2) h3⟩
      · have : W2.ownsRow W.heap.size 5 1 (.slice (some ⟨W1.heap.size, 0, none⟩) 0 0) 0 (bytesV []) := by rw [← hW2]; exact World.ownsRow_lit W1 #[] 0 HB1.out.size (Nat.zero_le _) rfl
        rw [← hW3]
        exact World.ownsRow.alloc this _
      · rw [← hW3]
        exact World.ownsRow_lit W2 #[] 0 (Nat.le_trans HB1.out.size h2.size) (Nat.zero_le _) rfl
    have HI := Lib.hid hI
    have HW2 := Lib.hid hW2
    have HW3 := Lib.hid hW3
    clear hI hW2 hW3
    go_wp2_with (first | rw [HW2.out] | rw [HW3.out])
    clear HW2 HW3
    go_loopw [3, 4, 21] (fun v v2 i wr => Sd1 bs W v v2 i wr) (fun _ _ i _ => bs.length - (intOf i).toNat)
    case atStart => exact ⟨0, _, Nat.zero_le _, rfl, HI.out, fun j hj => absurd hj (by omega)⟩
    case round =>
      rename World => X1
      obtain ⟨k, Bs, hk, rfl, hin, hsm⟩ := hrel
      obtain ⟨oa, ca, rfl, hra⟩ := owns_is hin.all (by rw [bytesV_length])
      obtain ⟨oi, ci, rfl, hri⟩ := owns_is hin.ins (by rw [hdrs7_length])
      by_cases hlt : k < bs.length
      · have hd1 : decide ((k : Int) < (bs.length : Int)) = true := by simpa using hlt
        obtain ⟨b1, off1, p1, q1, rfl, hb1, hcellW, hrowW⟩ := HR.out.cell k hlt
        obtain ⟨b, hbe⟩ : ∃ b, bi bs k = b := ⟨_, rfl⟩
        rw [hbe] at hcellW hrowW
        have hcell : X1.cell? ⟨b1, off1 + k, none⟩ = some (.slice p1 b.length q1) := by rw [hin.below.cell (p := ⟨b1, off1 + k, none⟩) hb1]; exact hcellW
        have hrow := hrowW.later hin.below
        have HRWW := Lib.hid hrowW
        clear hrowW hcellW
        have HIN := Lib.hid hin
        have HSM := Lib.hid hsm
        have HRW := Lib.hid hrow
        have HBE := Lib.hid hbe
        have hrc := hrow.cap
        have hrl := hrow.le
        unfold maxLen at hrc
        simp only [bytesV_length] at hrl
        have HBW := Lib.hid hin.below
        clear hin hsm hrow hbe hra hri
        by_cases hbl : 500 < b.length
        · go_wp2_with fail
          go_ret
          exact ⟨rfl, HBW.out⟩
        · have hbl2 : ¬ (b.length : Int) > 500 := by omega
          have HFS := Lib.hid (flat_step bs k hlt)
          have HFL : Hid ((bs.take k).flatten.length ≤ 10000) := Lib.hid (by have := flat_small bs k hk HSM.out; omega)
          obtain ⟨fl, hfl⟩ : ∃ fl, (bs.take k).flatten = fl := ⟨_, rfl⟩
          have HAL : Hid (X1.ownsRow W.heap.size 5 1 (.slice oa fl.length ca) fl.length (bytesV fl)) := Lib.hid (by have := HIN.out.all; rw [hfl] at this; exact this)
          rw [hfl] at HFS HFL ⊢
          go_wp2_with (first | (at_builtin; refine append_row_at rfl (.tmp 28) (.tmp 29) rfl W.heap.size _ fl.length fl rfl HAL.out p1 b.length q1 b rfl rfl HRW.out (by have := HFL.out; omega) HBW.out.size ?_))
          intro v3 X2 hv3 hg3 hat3
          have hin2 : In1 bs W X2 v3 (.slice oi k ci) (k + 1) k Bs := by
            refine HIN.out.app ?_ (by rw [hfl]; exact hg3) (by rw [hfl]; exact hat3)
            rw [HFS.out, HBE.out, List.length_append]
            exact hv3
          have hrow2 : RowIs X2 p1 (bytesV b) q1 := HRWW.out.later hin2.below
          have BY := Lib.hid (bytes_any b p1 q1 X2 hrow2 (by omega))
          have HIN2 := Lib.hid hin2
          clear hv3 hg3 hat3 hin2 hrow2
          go_wp2_with fail
          refine BY.out.mono ?_
          rintro e X3 ⟨B, rfl, hb3, hB3, hM3⟩
          have hin3 := HIN2.out.later hb3
          have hnB : some B ≠ v3.ownBlock := fun e => by
            have := World.ownsRow.lt HIN2.out.all B e.symm
            omega
          obtain ⟨X4, hX4⟩ : ∃ X4, X3.alloc (.cells #[.slice (some ⟨B, 0, none⟩) b.length (b.length + 6)] 24) = X4 := ⟨_, rfl⟩
          have hb4 : Below X3.heap.size X3 X4 := by rw [← hX4]; exact below_new0 _ _
          have hin4 := hin3.later hb4
          have hA4 : Arr X4 X3.heap.size 24 [.slice (some ⟨B, 0, none⟩) b.length (b.length + 6)] := by rw [← hX4]; exact Arr.made _ _ _
          have HR4 : Hid (RowIs X4 (some ⟨X3.heap.size, 0, none⟩) [.slice (some ⟨B, 0, none⟩) b.length (b.length + 6)] 1) := Lib.hid
            ⟨by simp, by unfold maxLen; decide, fun h => by (cases h), fun h0 => ⟨X3.heap.size, 0, rfl, hA4.lt, fun i v hv => by rw [Nat.zero_add, hA4.cell]; exact hv⟩⟩
          have HIN4 := Lib.hid hin4
          have HM4 : Hid (MarkedAt X4 B (bi bs k)) := Lib.hid (by rw [HBE.out]; exact hM3.later hb4)
          have HNB := Lib.hid hnB
          have HBO : Hid (W.heap.size ≤ B) := Lib.hid (Nat.le_trans HIN2.out.below.size hB3)
          have HX4 := Lib.hid hX4
          clear hb3 hB3 hM3 hin3 hnB hb4 hin4 hA4 hX4 BY
          go_wp2_with (first | rw [HX4.out] | (at_builtin; refine append_rowsH rfl (.tmp 31) (.tmp 34) rfl W.heap.size _ k (hdrs7 bs Bs k) rfl HIN4.out.ins _ 1 1 [.slice (some ⟨B, 0, none⟩) b.length (b.length + 6)] rfl rfl HR4.out (fun u hu => by rw [List.mem_singleton] at hu; subst hu; rfl) (by omega) HIN4.out.below.size ?_))
          intro v5 X5 hv5 hg5
          have hin5 := HIN4.out.hdr HM4.out HBO.out HNB.out (by rw [HBE.out]; exact hv5) hg5
          have HIN5 := Lib.hid hin5
          clear hv5 hg5 hin5
          go_wp2_with fail
          exact ⟨⟨k + 1, _, by omega, by go_num, HIN5.out, fun j hj => by
            by_cases e : j = k
            · subst e; rw [HBE.out]; omega
            · exact HSM.out j (by omega)⟩, by simp [intOf]; omega⟩
      · have hkb : k = bs.length := by omega
        have HRB : Hid (RbV bs (.slice oi k ci) X1) := Lib.hid (hin.row hsm hkb)
        have hfs := flat_small bs k hk hsm
        rw [hkb, List.take_length] at hra hfs
        obtain ⟨A, hA⟩ : ∃ A, bs.flatten = A := ⟨_, rfl⟩
        rw [hA] at hra hfs
        have hAl : A.length ≤ 10000 := by omega
        have RO : Hid (Calls Tryd.prog 7 #[.slice oa A.length ca] X1 fun e w' => e = .returned (.agg (bytesV (Da.sha A)).toArray) ∧ Below X1.heap.size X1 w') := Lib.hid (rof_any A oa ca X1 hra (HD.out.later hin.below) (by omega))
        obtain ⟨D, hD⟩ : ∃ D, (bytesV (Da.sha A)).toArray = D := ⟨_, rfl⟩
        rw [hD] at RO
        have HDE := Lib.hid hD
        have HAE := Lib.hid hA
        have HIN := Lib.hid hin
        have HSM := Lib.hid hsm
        have HRA := Lib.hid hra
        have hal : (bs.take k).flatten.length = A.length := by rw [hkb, List.take_length, hA]
        rw [hal]
        have HKB := Lib.hid hkb
        clear hin hsm hra hri hD hA hfs hal
        go_wp2_with fail
        refine RO.out.mono ?_
        rintro e X2 ⟨rfl, hb2⟩
        obtain ⟨gd, hgd⟩ : ∃ gd, X2.heap.size = gd := ⟨_, rfl⟩
        obtain ⟨X3, hX3⟩ : ∃ X3, X2.alloc (.cells Z 26) = X3 := ⟨_, rfl⟩
        have hA3 : Arr X3 gd 26 (bytesV (List.replicate 32 0)) := by rw [← hX3, HZ.out, ← hgd]; exact Arr.made _ _ _
        obtain ⟨X4, hX4⟩ : ∃ X4, X3.setRow gd D = X4 := ⟨_, rfl⟩
        have hb4 : Below X2.heap.size X2 X4 := by rw [← hX4, ← hX3]; exact (below_new0 _ _).trans (below_row (Nat.le_of_eq hgd))
        have HA4 : Hid (Arr X4 gd 26 (bytesV (Da.sha A))) := Lib.hid (by rw [← hX4, ← HDE.out]; exact setRow_heap _ _ _ _ _ _ hA3)
        have HB14 : Hid (Below X1.heap.size X1 X4) := Lib.hid (Kit.step hb2 hb4)
        have HF3 : Hid (X3.heap[gd]? = some (.cells Z 26 (0, 0))) := Lib.hid (by rw [HZ.out]; exact hA3)
        have HF4 : Hid ((Tryd.prog.info? 26).map (·.size) = some D.size) := Lib.hid (by rw [d32_info, ← HDE.out]; simp [Da.sha_length])
        have HF5 : Hid (Z.size = D.size) := Lib.hid (by rw [HZ.out, ← HDE.out]; simp [Da.sha_length])
        have HF6 : Hid (D.all (·.oneCell') = true) := Lib.hid (by rw [← HDE.out]; exact all_oneCell_toArray (bytesV_one _))
        have HX3 := Lib.hid hX3
        have HX4 := Lib.hid hX4
        have HGD := Lib.hid hgd
        clear hb2 hgd hX3 hA3 hX4 hb4 RO
        go_wp2_with (first | rw [HX3.out, HGD.out] | refine wpList_store_rowTo rfl 26 (.tmp 7) (.tmp 38) rfl rfl gd D rfl rfl 26 Z HF3.out HF4.out HF5.out HF6.out ?_)
        rw [HX4.out]
        have hin4 := HIN.out.later HB14.out
        have hrb4 : RbV bs (.slice oi k ci) X4 := HRB.out.later HB14.out
        rw [HKB.out] at hrb4
        have HIN4 := Lib.hid hin4
        have HSO : Hid (∀ v, Below X4.heap.size X4 v → Calls Tryd.prog 8 #[.slice oi bs.length ci] v fun e w' => e = .returned (.agg D) ∧ Below X4.heap.size X4 w') := Lib.hid fun v hv => by
          obtain ⟨o', c', e, hr⟩ := hrb4.later hv
          cases e
          refine (sof_any bs oi ci v hr (HC.out.later (Kit.step hin4.below hv)) (by rw [HAE.out]; omega) (by omega)).mono ?_
          rintro e w' ⟨rfl, hb⟩
          exact ⟨by rw [HAE.out, HDE.out], Kit.step hv hb⟩
        have HLD : Hid (∀ v, Below X4.heap.size X4 v → v.rangeAt gd 0 (bytesV (Da.sha A))) := Lib.hid fun v hv => (HA4.out.later hv HA4.out.lt).range 0 _ (fun j v hv => by rw [Nat.zero_add]; exact hv)
        have HLS : Hid ((Tryd.prog.info? 26).map (·.size) = some (bytesV (Da.sha A)).length) := Lib.hid (by rw [d32_info]; simp [Da.sha_length])
        have hne : ∀ W, (binOp .neq 26 (.agg D) (.agg D)).run Tryd.prog W = .ok (.bool false) W := fun W => by
          have h1 := d32_neq (Da.sha A) (Da.sha A) (Da.sha_length _) (Da.sha_length _) W
          rw [HDE.out, beq_self_eq_true] at h1
          exact h1
        have heq : ∀ W, (binOp .eql 26 (.agg D) (.agg D)).run Tryd.prog W = .ok (.bool true) W := fun W => by
          have h1 := d32_eql (Da.sha A) (Da.sha A) (Da.sha_length _) (Da.sha_length _) W
          rw [HDE.out, beq_self_eq_true] at h1
          exact h1
        have hgd := d32_guard
        clear hin4 hrb4
        refine Qt.region_class_tail (fun v => Below X4.heap.size X4 v) 3 (by kernel_rfl) (by kernel_rfl) (Kit.dn' X4 1) ?_
        simp only [List.take_succ_cons, List.take_zero, List.drop_succ_cons, List.drop_zero]
        (refine wpQuiet_step (fun K hK => ?_); refine Qt.qk_pure (v := ?_) rfl (fun w => ?_) ?_; rotate_left; (· go_simp <;> with_reducible rfl); go_simp; refine hK _ ?_; clear hK K)
        refine Qt.q_call rfl 8 _ _ rfl #[.slice oi bs.length ci] (by go_simp) (fun w => by simp [go_sem]) (.agg D) (fun v hv => HSO.out v hv) ?_
        refine Qt.q_load_mid rfl 26 (.tmp 7) rfl gd 0 rfl (bytesV (Da.sha A)) _ (fun v hv => HLD.out v hv) d32_under rfl HLS.out ?_
        rw [HDE.out]
        refine wpQuiet_nil ?_
        intro X5 hB5
        have hin5 := HIN4.out.later hB5
        have HIN5 := Lib.hid hin5
        have HA5 : Hid (Arr X5 gd 26 (bytesV (Da.sha A))) := Lib.hid (HA4.out.later hB5 HA4.out.lt)
        clear hB5 hin5 HIN4 HA4 HLD HSO
        go_wp2_with fail
        refine (new_any X5).mono ?_
        rintro e X6 ⟨rfl, hh6, hb6, hs6⟩
        obtain ⟨gh, hgh⟩ : ∃ gh, X5.heap.size = gh := ⟨_, rfl⟩
        have HGH := Lib.hid hgh
        rw [hgh] at hh6 ⊢
        have HH6 := Lib.hid hh6
        have HB6 := Lib.hid hb6
        clear hh6 hb6 hs6 hgh
        go_wp2_with fail
        go_loopw [9, 48] (fun n i wr => Sd2 bs gh X5 n i wr) (fun _ i _ => bs.length - (intOf i).toNat)
        case atStart => exact ⟨0, Nat.zero_le _, rfl, rfl, HH6.out, HB6.out⟩
        case round =>
          rename World => Y0
          obtain ⟨j, hj, rfl, rfl, hh0, hb0⟩ := hrel
          obtain ⟨fj, hfj⟩ : ∃ fj, (bs.take j).flatten = fj := ⟨_, rfl⟩
          rw [hfj] at hh0 ⊢
          by_cases hlj : j < bs.length
          · have hd1 : decide ((j : Int) < (bs.length : Int)) = true := by simpa using hlj
            have hin0 := HIN5.out.later hb0
            have HINS := hin0.ins
            obtain ⟨oi', ci', hoe, hri⟩ := owns_is HINS (by rw [hdrs7_length])
            cases hoe
            obtain ⟨b2, off2, rfl, hlt2, hcell2⟩ := hri.cells (by rw [hdrs7_length]; omega)
            obtain ⟨bj, hbj⟩ : ∃ bj, bi bs j = bj := ⟨_, rfl⟩
            obtain ⟨B, hB⟩ : ∃ B, Bs j = B := ⟨_, rfl⟩
            have hch : Y0.cell? ⟨b2, off2 + j, none⟩ = some (.slice (some ⟨B, 0, none⟩) bj.length (bj.length + 6)) := by
              refine hcell2 j _ ?_
              unfold hdrs7
              rw [List.getElem?_map, List.getElem?_range (by omega)]
              simp [hdr7, hbj, hB]
            have hjk : j < k := by rw [HKB.out]; exact hlj
            have hMj := hin0.mkd j hjk
            rw [hbj, hB] at hMj
            have hbl5 : bj.length ≤ 500 := by rw [← hbj]; exact HSM.out j hjk
            obtain ⟨b1, off1, p1, q1, rfl, hb1, hcellW, hrowW⟩ := HR.out.cell j hlj
            rw [hbj] at hcellW hrowW
            have hfl : fj.length ≤ A.length := by rw [← hfj, ← HAE.out]; exact flat_le bs j
            have hpre : A.take fj.length = fj := by
              rw [← HAE.out, ← hfj]
              have : bs.flatten = (bs.take j).flatten ++ (bs.drop j).flatten := by rw [← List.flatten_append, List.take_append_drop]
              rw [this, List.take_left']; rfl
            have hkA : (bs.take k).flatten = A := by rw [HKB.out, List.take_length]; exact HAE.out
            have hne : ∀ W, (binOp .neq 26 (.agg (bytesV (Da.sha fj)).toArray) (.agg (bytesV (Da.sha fj)).toArray)).run Tryd.prog W = .ok (.bool false) W := fun W => by
              have h1 := d32_neq (Da.sha fj) (Da.sha fj) (Da.sha_length _) (Da.sha_length _) W
              rw [beq_self_eq_true] at h1
              exact h1
            obtain ⟨E, hE⟩ : ∃ E, (bytesV (Da.sha fj)).toArray = E := ⟨_, rfl⟩
            rw [hE] at hne
            have hpn := ptr_neq ⟨gh, 0, none⟩
            have SUC : Hid (∀ v, Below Y0.heap.size Y0 v → Calls Tryd.prog 10 #[.pointer (some ⟨gh, 0, none⟩)] v fun e w' => e = .returned (.agg E) ∧ Below Y0.heap.size Y0 w') := Lib.hid fun v hv => by
              refine (hsum_any gh fj v (by obtain ⟨s1, r1, h1⟩ := hh0; exact ⟨s1, r1, h1.arr.later hv h1.arr.lt, h1.slen, h1.rlen, h1.ok⟩) (HC.out.later (Kit.step hin0.below hv)) (by omega)).mono ?_
              rintro e w' ⟨rfl, hb⟩
              exact ⟨by rw [hE], Kit.step hv hb⟩
            have ROC : Hid (∀ v, Below Y0.heap.size Y0 v → Calls Tryd.prog 7 #[.slice oa fj.length ca] v fun e w' => e = .returned (.agg E) ∧ Below Y0.heap.size Y0 w') := Lib.hid fun v hv => by
              obtain ⟨o', c', he, hr⟩ := owns_is (hin0.later hv).all (by rw [bytesV_length])
              cases he
              rw [hkA] at hr
              have hr2 := hr.pre fj.length hfl
              rw [hpre] at hr2
              refine (rof_any fj oa ca v hr2 (HD.out.later (Kit.step hin0.below hv)) (by omega)).mono ?_
              rintro e w' ⟨rfl, hb⟩
              exact ⟨by rw [hE], Kit.step hv hb⟩
            have PUC : Hid (∀ v, Below Y0.heap.size Y0 v → Calls Tryd.prog 11 #[.pointer (some ⟨gh, 0, none⟩), .slice (some ⟨B, 0, none⟩) bj.length (bj.length + 6)] v fun e w' => e = .returned (.pointer (some ⟨gh, 0, none⟩)) ∧ Hash w' gh (fj ++ bj) ∧ Below X5.heap.size X5 w') := Lib.hid fun v hv => by
              have hcd := HC.out.later (Kit.step hin0.below hv)
              have hBlt : B < gh := by
                have := (HIN5.out.mkd j hjk).lt
                rw [hB, HGH.out] at this
                exact this
              refine (put_any gh fj bj (some ⟨B, 0, none⟩) (bj.length + 6) v (by obtain ⟨s1, r1, h1⟩ := hh0; exact ⟨s1, r1, h1.arr.later hv h1.arr.lt, h1.slen, h1.rlen, h1.ok⟩) ((hMj.later hv).row (by unfold maxLen; omega)) (fun _ ad e => by cases e; show B ≠ gh; omega) (HC.out.ne (by have := HIN5.out.below.size; have := HGH.out; omega)) hcd.cubes hcd.begins (by omega)).mono ?_
              rintro e w' ⟨rfl, hh, hg⟩
              exact ⟨rfl, hh, below_grown (Kit.step hb0 hv) hg (Nat.le_of_eq HGH.out) (Kit.step hb0 hv).size⟩
            have KEC : Hid (∀ v, Below X5.heap.size X5 v → Calls Tryd.prog 12 #[.slice (some ⟨B, 0, none⟩) bj.length (bj.length + 6), .slice p1 bj.length q1] v fun e w' => e = .returned (.bool true) ∧ Kit.Dn v w') := Lib.hid fun v hv => by
              have hi := HIN5.out.later hv
              have hm := hi.mkd j hjk
              rw [hbj, hB] at hm
              exact kept_any bj B p1 q1 v hm (hrowW.later hi.below) (by omega)
            have HCP : Hid (∀ v, Below X5.heap.size X5 v → v.cell? ⟨b1, off1 + j, none⟩ = some (.slice p1 bj.length q1)) := Lib.hid fun v hv => by
              rw [(HIN5.out.later hv).below.cell (p := ⟨b1, off1 + j, none⟩) hb1]; exact hcellW
            have CNC : Hid (∀ v, Hash v gh (fj ++ bj) → Calls Tryd.prog 13 #[.pointer (some ⟨gh, 0, none⟩)] v fun e w' => e = .returned (.int .i64 ((fj.length : Int) + (bj.length : Int))) ∧ w' = v) := Lib.hid fun v hv => by
              have := hcount_any gh (fj ++ bj) v hv
              rw [List.length_append, Int.natCast_add] at this
              exact this
            have HFJ : Hid ((bs.take (j + 1)).flatten = fj ++ bj) := Lib.hid (by rw [flat_step bs j hlj, hfj, hbj])
            have HB0 := Lib.hid hb0
            have l1 : (j : Int) < (bs.length : Int) := by omega
            have l2 : (fj.length : Int) ≤ (A.length : Int) := by omega
            have l3 : A.length ≤ ca := by have := HRA.out.le; simpa using this
            have l4 : fj.length ≤ ca := by omega
            clear hh0 hb0 hin0 HINS hri hcell2 hMj hcellW hrowW hpre hfj hbj hB heq hkA hE
            go_wp2_with fail
            refine wp_region_any (by kernel_rfl) ?_
            change wpAny _ _ _ _ _ _ _ (World.drew _)
            refine wpAny_take (i := 0) (v := ?tv0) rfl (by kernel_rfl) (by kernel_rfl) (by kernel_rfl) (fun _ _ _ h => h) (Or.inl ⟨by rfl, ?ta0⟩) ?tr0
            case ta0 => (intro w; (go_simp <;> with_reducible rfl))
            refine wpAny_take (i := 2) (v := ?tv2) rfl (by kernel_rfl) (by kernel_rfl) (by kernel_rfl) (fun _ _ _ h => h) (Or.inl ⟨by rfl, ?ta2⟩) ?tr2
            case ta2 => (intro w; (go_simp <;> with_reducible rfl))
            refine wpAny_take (i := 3) (v := ?tv3) rfl (by kernel_rfl) (by kernel_rfl) (by kernel_rfl) (fun _ _ _ h => h) (Or.inl ⟨by rfl, ?ta3⟩) ?tr3
            case ta3 => (intro w; (go_simp <;> with_reducible rfl))
            refine wpAny_take (i := 4) (v := ?tv4) rfl (by kernel_rfl) (by kernel_rfl) (by kernel_rfl) (fun _ _ _ h => h) (Or.inl ⟨by rfl, ?ta4⟩) ?tr4
            case ta4 => (intro w; (go_simp <;> with_reducible rfl))
            refine wpAny_ready (rs := [1]) (by kernel_rfl) (by simp) ?_
            refine AllReady.cons rfl (fun K hK => ?_) AllReady.nil
            go_simp
            refine (SUC.out _ (Kit.dn' Y0 1)).mono ?_
            rintro e V1 ⟨rfl, hv1⟩
            refine hK _ _ ?_
            clear hK K
            refine wpAny_ready (rs := [5]) (by kernel_rfl) (by simp) ?_
            refine AllReady.cons rfl (fun K hK => ?_) AllReady.nil
            go_simp
            refine (ROC.out _ hv1).mono ?_
            rintro e V2 ⟨rfl, hv2⟩
            refine hK _ _ ?_
            clear hK K
            refine wpAny_take (i := 6) (v := ?tv6) rfl (by kernel_rfl) (by kernel_rfl) (by kernel_rfl) (fun _ _ _ h => h) (Or.inl ⟨by rfl, ?ta6⟩) ?tr6
            case ta6 => (intro w; (go_simp <;> with_reducible rfl))
            refine wpAny_take (i := 7) (v := ?tv7) rfl (by kernel_rfl) (by kernel_rfl) (by kernel_rfl) (fun _ _ _ h => h) (Or.inl ⟨by rfl, ?ta7⟩) ?tr7
            case ta7 => (intro w; (go_simp <;> with_reducible rfl))
            refine wpAny_take (i := 8) (v := ?tv8) rfl (by kernel_rfl) (by kernel_rfl) (by kernel_rfl) (fun _ _ _ h => h) (Or.inl ⟨by rfl, ?ta8⟩) ?tr8
            case ta8 => (intro w; (go_simp <;> with_reducible rfl))
            refine wpAny_take (i := 9) (v := ?tv9) rfl (by kernel_rfl) (by kernel_rfl) (by kernel_rfl) (fun _ _ _ h => h) (Or.inl ⟨by rfl, ?ta9⟩) ?tr9
            case ta9 => (intro w; (go_simp <;> with_reducible rfl))
            refine wpAny_take (i := 11) (v := ?tv11) rfl (by kernel_rfl) (by kernel_rfl) (by kernel_rfl) (fun _ _ _ h => h) (Or.inl ⟨by rfl, ?ta11⟩) ?tr11
            case ta11 => (intro w; (go_simp <;> with_reducible rfl))
            refine wpAny_ready (rs := [10]) (by kernel_rfl) (by simp) ?_
            refine AllReady.cons rfl (fun K hK => ?_) AllReady.nil
            go_simp
            refine (PUC.out _ hv2).mono ?_
            rintro e V3 ⟨rfl, hh3, hv3⟩
            refine hK _ _ ?_
            clear hK K
            refine wpAny_take (i := 12) (v := ?tv12) rfl (by kernel_rfl) (by kernel_rfl) (by kernel_rfl) (fun _ _ _ h => h) (Or.inl ⟨by rfl, ?ta12⟩) ?tr12
            case ta12 => (intro w; (go_simp <;> with_reducible rfl))
            refine wpAny_take (i := 13) (v := ?tv13) rfl (by kernel_rfl) (by kernel_rfl) (by kernel_rfl) (fun _ _ _ h => h) (Or.inl ⟨by rfl, ?ta13⟩) ?tr13
            case ta13 => (intro w; (go_simp <;> with_reducible rfl))
            refine wpAny_take (i := 14) (v := ?tv14) rfl (by kernel_rfl) (by kernel_rfl) (by kernel_rfl) (fun _ _ _ h => h) (Or.inl ⟨by rfl, ?ta14⟩) ?tr14
            case ta14 => (intro w; (go_simp <;> with_reducible rfl))
            refine wpAny_take (i := 15) (v := ?tv15) rfl (by kernel_rfl) (by kernel_rfl) (by kernel_rfl) (fun _ _ _ h => h) (Or.inl ⟨by rfl, ?ta15⟩) ?tr15
            case ta15 => (intro w; (go_simp <;> with_reducible rfl))
            refine wpAny_take (i := 16) (v := ?tv16) rfl (by kernel_rfl) (by kernel_rfl) (by kernel_rfl) (fun _ _ _ h => h) (Or.inl ⟨by rfl, ?ta16⟩) ?tr16
            case ta16 => (intro w; (go_simp <;> with_reducible rfl))
            refine wpAny_take (i := 17) (v := ?tv17) rfl (by kernel_rfl) (by kernel_rfl) (by kernel_rfl) (fun _ _ _ h => h) (Or.inl ⟨by rfl, ?ta17⟩) ?tr17
            case ta17 => (intro w; (go_simp <;> with_reducible rfl))
            refine wpAny_take (i := 18) (v := ?tv18) rfl (by kernel_rfl) (by kernel_rfl) (by kernel_rfl) (fun _ _ _ h => h) (Or.inl ⟨by rfl, ?ta18⟩) ?tr18
            case ta18 => (intro w; (go_simp <;> with_reducible rfl))
            have hcp3 := HCP.out V3 hv3
            refine wpAny_ready (rs := [19]) (by kernel_rfl) (by simp) ?_
            refine AllReady.cons rfl (fun K hK => ?_) AllReady.nil
            go_simp
            skip
            refine hK _ _ ?_
            clear hK K
            refine wpAny_ready (rs := [20]) (by kernel_rfl) (by simp) ?_
            refine AllReady.cons rfl (fun K hK => ?_) AllReady.nil
            go_simp
            refine (KEC.out _ hv3).mono ?_
            rintro e V4 ⟨rfl, nd, rfl⟩
            refine hK _ _ ?_
            clear hK K
            refine wpAny_take (i := 21) (v := ?tv21) rfl (by kernel_rfl) (by kernel_rfl) (by kernel_rfl) (fun _ _ _ h => h) (Or.inl ⟨by rfl, ?ta21⟩) ?tr21
            case ta21 => (intro w; (go_simp <;> with_reducible rfl))
            refine wpAny_take (i := 22) (v := ?tv22) rfl (by kernel_rfl) (by kernel_rfl) (by kernel_rfl) (fun _ _ _ h => h) (Or.inl ⟨by rfl, ?ta22⟩) ?tr22
            case ta22 => (intro w; (go_simp <;> with_reducible rfl))
            refine wpAny_done (by kernel_rfl) ?_ _
            have hh4 : Hash (V3.drewN nd) gh (fj ++ bj) := hh3.kept (grown_below (B := 0) (row := none) (Kit.dn' V3 nd)) (by simp)
            have HH4 := Lib.hid hh4
            have HV4 : Hid (Below X5.heap.size X5 (V3.drewN nd)) := Lib.hid (Kit.dn hv3 nd)
            obtain ⟨V4, hV4⟩ : ∃ V4, V3.drewN nd = V4 := ⟨_, rfl⟩
            rw [hV4] at HH4 HV4 ⊢
            clear hh4 hh3 hv3 hv2 hv1 hV4 hcp3
            go_wp2_with fail
            refine (CNC.out _ HH4.out).mono ?_
            rintro e V5 ⟨rfl, rfl⟩
            go_wp2_with fail
            exact ⟨⟨j + 1, by omega, by rw [HFJ.out, List.length_append]; go_num, by go_num, by rw [HFJ.out]; exact HH4.out, HV4.out⟩, by simp [intOf]; omega⟩
          · have hjb : j = bs.length := by omega
            have hfa : fj = A := by rw [← hfj, hjb, List.take_length]; exact HAE.out
            rw [hfa] at hh0
            have hcd := HC.out.later (HIN5.out.later hb0).below
            have HSO : Hid (∀ v, Below Y0.heap.size Y0 v → Calls Tryd.prog 10 #[.pointer (some ⟨gh, 0, none⟩)] v fun e w' => e = .returned (.agg D) ∧ Below Y0.heap.size Y0 w') := Lib.hid fun v hv => by
              refine (hsum_any gh A v (by obtain ⟨s1, r1, h1⟩ := hh0; exact ⟨s1, r1, h1.arr.later hv h1.arr.lt, h1.slen, h1.rlen, h1.ok⟩) (hcd.later hv) (by omega)).mono ?_
              rintro e w' ⟨rfl, hb⟩
              exact ⟨by rw [HDE.out], Kit.step hv hb⟩
            have HLD : Hid (∀ v, Below Y0.heap.size Y0 v → v.rangeAt gd 0 (bytesV (Da.sha A))) := Lib.hid fun v hv => by
              have h1 := HA5.out.later hb0 HA5.out.lt
              exact (h1.later hv h1.lt).range 0 _ (fun j v hv => by rw [Nat.zero_add]; exact hv)
            have HBF : Hid (Below W.heap.size W Y0) := Lib.hid (HIN5.out.later hb0).below
            clear hh0 hb0 hcd hfa hfj
            go_wp2_with fail
            refine Qt.region_class_tail (fun v => Below Y0.heap.size Y0 v) 4 (by kernel_rfl) (by kernel_rfl) (Kit.dn' Y0 1) ?_
            simp only [List.take_succ_cons, List.take_zero, List.drop_succ_cons, List.drop_zero]
            (refine wpQuiet_step (fun K hK => ?_); refine Qt.qk_pure (v := ?_) rfl (fun w => ?_) ?_; rotate_left; (· go_simp <;> with_reducible rfl); go_simp; refine hK _ ?_; clear hK K)
            refine Qt.q_call rfl 10 _ _ rfl #[.pointer (some ⟨gh, 0, none⟩)] (by go_simp) (fun w => by simp [go_sem]) (.agg D) (fun v hv => HSO.out v hv) ?_
            refine Qt.q_load_mid rfl 26 (.tmp 7) rfl gd 0 rfl (bytesV (Da.sha A)) _ (fun v hv => HLD.out v hv) d32_under rfl HLS.out ?_
            rw [HDE.out]
            (refine wpQuiet_step (fun K hK => ?_); refine Qt.qk_pure (v := ?_) rfl (fun w => ?_) ?_; rotate_left; (· go_simp <;> with_reducible rfl); go_simp; refine hK _ ?_; clear hK K)
            refine wpQuiet_nil ?_
            intro Y1 hB1
            have HBZ : Hid (Below W.heap.size W Y1) := Lib.hid (Kit.step HBF.out hB1)
            clear hB1
            go_wp2_with fail
            go_ret
            exact ⟨rfl, HBZ.out⟩
theorem sd_any (bs : List (List UInt8)) (o : Option Addr) (c : Nat) (W : World) (hR : RbIs W o bs c) (hC : Cds W) (hD : Rds W) :
    Calls Tryd.prog 3 #[.slice o bs.length c] W fun e w' => e = .returned (.bool true) ∧ Below W.heap.size W w' := sd_of _ rfl d32_zero bs o c W hR hC hD
end Go.Proofs.YtalilmnpobgffaaDoor
