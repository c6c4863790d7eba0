/- A key's stream: the source, its blocks and numbers. -/
import Derived.Test.YtaanjlbkncfnbaaDoorLy
import Derived.Test.YtaanjlbkncfnbaaDoorGt
namespace Go.Proofs.YtaanjlbkncfnbaaDoor.Da
/-- block n of a key's stream -/
def sb (k : List UInt8) (n : Int) : List UInt8 := (hmac k (num8 n)).take 8
/-- bytes as a number, the high one first -/
def nbe (l : List UInt8) : Nat := l.foldl (fun s b => s * 256 + b.toNat) 0
def sn (k : List UInt8) (n : Int) : Nat := nbe (sb k n)
theorem sb_length (k : List UInt8) (n : Int) : (sb k n).length = 8 := by simp [sb, hmac_length]
theorem nbe_zero (l : List UInt8) : nbe (l.take 0) = 0 := rfl
theorem nbe_step (l : List UInt8) (j : Nat) (hj : j < l.length) : nbe (l.take (j + 1)) = nbe (l.take j) * 256 + (l.getD j 0).toNat := by
  unfold nbe
  rw [List.take_add_one, List.getElem?_eq_getElem hj, List.foldl_append]
  simp [hj]
theorem nbe_lt (l : List UInt8) (j : Nat) : nbe (l.take j) < 256 ^ j := by
  induction j with
  | zero => simp [nbe]
  | succ j ih =>
    by_cases hj : j < l.length
    · rw [nbe_step l j hj, Nat.pow_succ]
      have := UInt8.toNat_lt (l.getD j 0)
      omega
    · rw [List.take_of_length_le (by omega), ← List.take_of_length_le (l := l) (i := j) (by omega)]
      exact Nat.lt_of_lt_of_le ih (Nat.pow_le_pow_right (by omega) (by omega))
theorem sn_lt (k : List UInt8) (n : Int) : sn k n < 2 ^ 64 := by
  have := nbe_lt (sb k n) 8
  rw [List.take_of_length_le (by rw [sb_length]; omega)] at this
  exact this
end Go.Proofs.YtaanjlbkncfnbaaDoor.Da
namespace Go.Proofs.YtaanjlbkncfnbaaDoor
open Go.RowKit
set_option linter.unusedVariables false
set_option linter.unusedSimpArgs false
theorem src_built (p : Nat) : Tryd.prog.built 51 [(0, .pointer (some ⟨p, 0, none⟩))] = some #[.pointer (some ⟨p, 0, none⟩)] := by kernel_rfl
theorem src_one (p : Nat) : (#[.pointer (some ⟨p, 0, none⟩)] : Array Value).all (·.oneCell') = true := all_oneCell_toArray (cs := [.pointer (some ⟨p, 0, none⟩)]) (fun u hu => by rw [List.mem_singleton] at hu; subst hu; rfl)
theorem src_size : (Tryd.prog.info? 51).map (·.size) = some 1 := by kernel_rfl
set_option maxRecDepth 100000 in
theorem sof10_any (k : List UInt8) (o : Option Addr) (c : Nat) (w : World) (hR : RowIs w o (bytesV k) c) (hV : Cds w) (hl : k.length ≤ 900000) :
    Calls Tryd.prog 20 #[.slice o k.length c] w fun e w' => ∃ p, e = .returned (.agg #[.pointer (some ⟨p, 0, none⟩)]) ∧ Arr w' p 74 (bytesV (Da.fil k)) ∧ Below w.heap.size w w' := by
  obtain ⟨g, hg⟩ : ∃ g, w.heap.size = g := ⟨_, rfl⟩
  obtain ⟨W1, hW1⟩ : ∃ W1, w.alloc (.cells #[.pointer none] 51) = W1 := ⟨_, rfl⟩
  have hb1 : Below w.heap.size w W1 := by rw [← hW1]; exact (Below.refl _ _).alloc (Nat.le_refl _) _
  have hA1 : Arr W1 g 51 [.pointer none] := by rw [← hW1, ← hg]; exact Arr.made _ _ _
  have KM := Lib.hid (kmake_any k o c W1 (hR.later hb1) (hV.later hb1) hl)
  have HA1 := Lib.hid hA1
  have HB1 := Lib.hid hb1
  have HG := Lib.hid hg
  have HW1 := Lib.hid hW1
  clear hR hV hb1 hA1 hg hW1
  go_enter Tryd.func20, Tryd.ntmps20
  go_wp2_with (first | rw [HW1.out])
  refine KM.out.mono ?_
  rintro e W2 ⟨rfl, hk, hb2⟩
  obtain ⟨p, hp⟩ : ∃ p, W1.heap.size = p := ⟨_, rfl⟩
  rw [hp] at hk ⊢
  have hA2 := HA1.out.later hb2 HA1.out.lt
  obtain ⟨W3, hW3⟩ : ∃ W3, W2.setRow g #[.pointer (some ⟨p, 0, none⟩)] = W3 := ⟨_, rfl⟩
  have hA3 : Arr W3 g 51 [.pointer (some ⟨p, 0, none⟩)] := by rw [← hW3]; exact setRow_heap _ _ _ _ _ _ hA2
  have hgp : p ≠ g := by have := HA1.out.lt; omega
  have hk3 : Arr W3 p 74 (bytesV (Da.fil k)) := by rw [← hW3]; unfold Arr; rw [setRow_other _ _ _ _ hgp]; exact hk
  have hB3 : Below w.heap.size w W3 := by rw [← hW3]; exact (Kit.step HB1.out hb2).trans (below_row (by rw [HG.out]; exact Nat.le_refl _))
  have HA2 : Hid (W2.heap[g]? = some (.cells #[.pointer none] 51 (0, 0))) := Lib.hid hA2
  have HA3 : Hid (W3.heap[g]? = some (.cells #[.pointer (some ⟨p, 0, none⟩)] 51 (0, 0))) := Lib.hid hA3
  have HK3 := Lib.hid hk3
  have HB3 := Lib.hid hB3
  have HW3 := Lib.hid hW3
  clear hk hb2 hp hA2 hA3 hW3 hgp hk3 hB3
  go_wp2_with (first | rw [HG.out] | refine wpList_built rfl 51 _ rfl [(0, .pointer (some ⟨p, 0, none⟩))] (by simp; rfl) _ (src_built p) ?_ | refine wpList_store_row rfl 51 (.tmp 2) (.tmp 5) rfl g #[.pointer (some ⟨p, 0, none⟩)] rfl rfl 51 _ HA2.out src_size rfl (src_one p) ?_ | rw [HW3.out])
  refine bodyPost_ret (results_cell_row rfl _ _ g 51 #[.pointer (some ⟨p, 0, none⟩)] (0, 0) _ rfl HA3.out Tryd.underlying51 rfl src_size) rfl ?_
  exact ⟨p, rfl, HK3.out, by have h := HB3.out; rwa [HG.out] at h⟩
/-- what each operation has as its result -/
def SbG (k : List UInt8) (n : Int) (b p : Nat) (Z : Array Value) (base : Nat) (i : Nat) (x : Value) (v : World) : Prop :=
  match i with
  | 0 => x = .pointer (some ⟨b, 0, none⟩)
  | 1 => x = .pointer (some ⟨p, 0, none⟩)
  | 2 => x = .int .i64 n
  | 3 => RowV (Da.num8 n) x v
  | 4 => RbV [Da.num8 n] x v
  | 5 => x = .agg (bytesV (Da.hmac k (Da.num8 n))).toArray
  | 6 => ∃ g, x = .pointer (some ⟨g, 0, none⟩) ∧ base ≤ g ∧ v.heap[g]? = some (.cells Z 64 (0, 0))
  | _ => True
theorem SbG.later {k : List UInt8} {n : Int} {b p : Nat} {Z : Array Value} {base : Nat} (i : Nat) (x : Value) (v v' : World) (h : SbG k n b p Z base i x v) (hb : Below v.heap.size v v') : SbG k n b p Z base i x v' := by
  unfold SbG at *
  split at h
  · exact h
  · exact h
  · exact h
  · exact h.later hb
  · exact h.later hb
  · exact h
  · obtain ⟨g, e, hg, hh⟩ := h
    exact ⟨g, e, hg, by rw [hb.block _ (Array.getElem?_eq_some_iff.1 hh).1]; exact hh⟩
  · trivial
theorem lnum_rv {v : World} {x : Value} {n : Int} (hx : x = .int .i64 n) : Calls Tryd.prog 32 #[x] v fun e w' => ∃ r, e = .returned r ∧ RowV (Da.num8 n) r w' ∧ Below v.heap.size v w' := by
  subst hx
  refine (lnum_any n v).mono ?_
  rintro e w' ⟨rfl, hA, hb⟩
  have hr := hA.row (by rw [Da.num8_length]; unfold maxLen; decide)
  exact ⟨_, rfl, ⟨_, 8, by rw [Da.num8_length], by rw [Da.num8_length] at hr; exact hr⟩, hb⟩
theorem kofh_rv {v : World} {x y : Value} {k : List UInt8} {bs : List (List UInt8)} {p : Nat} (hA : Arr v p 74 (bytesV (Da.fil k))) (hx : x = .pointer (some ⟨p, 0, none⟩)) (hy : RbV bs y v) (hV : Cds v) (hl : bs.flatten.length ≤ 800000) (hn : bs.length ≤ 1000000) :
    Calls Tryd.prog 31 #[x, y] v fun e w' => ∃ r, e = .returned r ∧ r = .agg (bytesV (Da.hmac k bs.flatten)).toArray ∧ Below v.heap.size v w' := by
  subst hx
  obtain ⟨o, c, rfl, hR⟩ := hy
  refine (kofh_any k p bs o c v hA hR hV hl hn).mono ?_
  rintro e w' ⟨rfl, hb⟩
  exact ⟨_, rfl, rfl, hb⟩
set_option maxRecDepth 100000 in
set_option maxHeartbeats 2000000 in
theorem sblk_of (Z : Array Value) (hZ : Z = (bytesV (List.replicate 32 0)).toArray) (hzs : ∀ w, Sem.run Tryd.prog (zeroValue 64) w = .ok (.agg Z) w) (k : List UInt8) (n : Int) (p : Nat) (w : World) (hA : Arr w p 74 (bytesV (Da.fil k))) (hV : Cds w) :
    Calls Tryd.prog 21 #[.agg #[.pointer (some ⟨p, 0, none⟩)], .int .i64 n] w fun e w' => ∃ g, e = .returned (.slice (some ⟨g, 0, none⟩) 8 8) ∧ w.heap.size ≤ g ∧ RowIs w' (some ⟨g, 0, none⟩) (bytesV (Da.sb k n)) 8 ∧ Below w.heap.size w w' := by
  have hmf := @makes Tryd.prog
  obtain ⟨b, hbe⟩ : ∃ b, w.heap.size = b := ⟨_, rfl⟩
  obtain ⟨W1, hW1⟩ : ∃ W1, w.alloc (.cells #[.pointer (some ⟨p, 0, none⟩)] 51) = W1 := ⟨_, rfl⟩
  have hb1 : Below w.heap.size w W1 := by rw [← hW1]; exact (Below.refl _ _).alloc (Nat.le_refl _) _
  have hA1 : Arr W1 b 51 [.pointer (some ⟨p, 0, none⟩)] := by rw [← hW1, ← hbe]; exact Arr.made _ _ _
  have HA1 := Lib.hid hA1
  have HB1 := Lib.hid hb1
  have HE := Lib.hid hbe
  have HW1 := Lib.hid hW1
  have HA := Lib.hid (hA.later hb1 hA.lt)
  have HV := Lib.hid (hV.later hb1)
  clear hb1 hA1 hbe hW1 hA hV
  go_enter Tryd.func21, Tryd.ntmps21
  go_wp2_with (first | rw [HW1.out, HE.out])
  refine Code.wp_mono (Q := fun e b' v => e = .normal ∧ ∃ (g : Nat) (f : Nat → Value), w.heap.size ≤ g ∧ Below W1.heap.size W1 v ∧ Arr v g 64 (bytesV (Da.hmac k (Da.num8 n))) ∧ b' = { tmps := #[.agg #[.pointer (some ⟨p, 0, none⟩)], .int .i64 n, .pointer (some ⟨b, 0, none⟩), f 3, .slice none 0 0, .pointer (some ⟨g, 0, none⟩), f 6, f 7, f 8, f 9, f 10, f 11, f 12], defers := [] }) ?rest ?reg
  case reg =>
    refine Rg.region_to (by kernel_rfl) (fun i => decide (i < 7)) (SbG k n b p Z W1.heap.size) (by kernel_rfl) SbG.later ?step ?fin
    case step =>
      intro i op b' v hE ho hb hrest hdep
      have hi := (Array.getElem?_eq_some_iff.1 ho).1
      have r2 : b'.eval (.tmp 2) = .pointer (some ⟨b, 0, none⟩) := hrest 2 (Rg.freeOf_spec (by kernel_rfl))
      have r1 : b'.eval (.tmp 1) = .int .i64 n := hrest 1 (Rg.freeOf_spec (by kernel_rfl))
      match i, hi with
      | 0, _ =>
        obtain rfl := Option.some.inj ho
        refine Rg.does_pure (.pointer (some ⟨b, 0, none⟩)) ?_ rfl
        have f1 : b'.tmps[2]?.getD undef = _ := (show _ = b'.eval (.tmp 2) by simp [Act.eval]).trans r2
        simp only [execOp]
        go_simp
      | 1, _ =>
        obtain rfl := Option.some.inj ho
        have d1 : b'.eval (.tmp 6) = .pointer (some ⟨b, 0, none⟩) := hdep ⟨0, .data⟩ (by simp) rfl rfl _ _ rfl rfl
        have f1 : b'.tmps[6]?.getD undef = _ := (show _ = b'.eval (.tmp 6) by simp [Act.eval]).trans d1
        have hc : v.cell? ⟨b, 0, none⟩ = some (.pointer (some ⟨p, 0, none⟩)) := (HA1.out.later hb HA1.out.lt).cell 0
        refine Rg.does_pure (.pointer (some ⟨p, 0, none⟩)) ?_ rfl
        simp only [execOp]
        go_simp
      | 2, _ =>
        obtain rfl := Option.some.inj ho
        exact Rg.does_move rfl r1
      | 3, _ =>
        obtain rfl := Option.some.inj ho
        have d1 : b'.eval (.tmp 8) = .int .i64 n := hdep ⟨2, .data⟩ (by simp) rfl rfl _ _ rfl rfl
        exact Rg.does_fn rfl (enters_of Tryd.func32 (by kernel_rfl) rfl) (args := #[b'.eval (.tmp 8)]) (by simp) (lnum_rv d1)
      | 4, _ =>
        obtain rfl := Option.some.inj ho
        have d1 : RowV (Da.num8 n) (b'.eval (.tmp 9)) v := hdep ⟨3, .data⟩ (by simp) rfl rfl _ _ rfl rfl
        have f1 : b'.tmps[9]?.getD undef = b'.eval (.tmp 9) := by simp [Act.eval]
        generalize b'.eval (.tmp 9) = x1 at d1 f1
        obtain ⟨o1, c1, rfl, hr1⟩ := d1
        have hrun : RbV [Da.num8 n] (.slice (some ⟨v.heap.size, 0, none⟩) 1 1) (v.alloc (.cells #[.slice o1 (Da.num8 n).length c1] 22)) := ⟨_, 1, rfl, one_part hr1⟩
        refine Rg.does_new (v' := v.alloc (.cells #[.slice o1 (Da.num8 n).length c1] 22)) (.slice (some ⟨v.heap.size, 0, none⟩) 1 1) ?_ hrun ((Below.refl _ _).alloc (Nat.le_refl _) _)
        simp only [execOp]
        go_simp
      | 5, _ =>
        obtain rfl := Option.some.inj ho
        have d1 : b'.eval (.tmp 7) = .pointer (some ⟨p, 0, none⟩) := hdep ⟨1, .data⟩ (by simp) rfl rfl _ _ rfl rfl
        have d2 : RbV [Da.num8 n] (b'.eval (.tmp 10)) v := hdep ⟨4, .data⟩ (by simp) rfl rfl _ _ rfl rfl
        have hk := kofh_rv (HA.out.later hb HA.out.lt) d1 d2 (HV.out.later hb) (by simp [Da.num8_length]) (by simp)
        rw [show [Da.num8 n].flatten = Da.num8 n by simp] at hk
        exact Rg.does_fn rfl (enters_of Tryd.func31 (by kernel_rfl) rfl) (args := #[b'.eval (.tmp 7), b'.eval (.tmp 10)]) (by simp) hk
      | 6, _ =>
        obtain rfl := Option.some.inj ho
        refine Rg.does_new (v' := v.alloc (.cells Z 64)) (.pointer (some ⟨v.heap.size, 0, none⟩)) ?_ ⟨_, rfl, hb.size, World.alloc_heap_new _ _⟩ ((Below.refl _ _).alloc (Nat.le_refl _) _)
        simp only [execOp]
        go_simp
      | 7, _ => exact absurd hE (by decide)
      | m + 8, h => exact absurd h (by simp)
    case fin =>
      intro b' v hb hs hd hrest hall
      have r0 : b'.tmps.getD 0 undef = .agg #[.pointer (some ⟨p, 0, none⟩)] := hrest 0 (Rg.freeOf_spec (by kernel_rfl))
      have r1 : b'.tmps.getD 1 undef = .int .i64 n := hrest 1 (Rg.freeOf_spec (by kernel_rfl))
      have r2 : b'.tmps.getD 2 undef = .pointer (some ⟨b, 0, none⟩) := hrest 2 (Rg.freeOf_spec (by kernel_rfl))
      have r4 : b'.tmps.getD 4 undef = .slice none 0 0 := hrest 4 (Rg.freeOf_spec (by kernel_rfl))
      obtain ⟨g, e5, hg, hh⟩ := hall 6 _ 5 rfl rfl rfl
      have e11 : b'.tmps.getD 11 undef = .agg (bytesV (Da.hmac k (Da.num8 n))).toArray := hall 5 _ 11 rfl rfl rfl
      change wpAnyH _ _ _ _ _ 1 _ _ _
      refine wpAnyH_all (rs := [7]) (by kernel_rfl) (by simp) (fun i hi => ?_)
      obtain rfl : i = 7 := by simpa using hi
      refine Rg.op_store_row (g := g) rfl rfl rfl e5 e11 hh (by rw [dg_info]; simp [Da.hmac_length]) (by rw [hZ]; simp [Da.hmac_length]) (all_oneCell_toArray (bytesV_one _)) ⟨trivial, ?_⟩
      refine wpAnyH_done (by kernel_rfl) ?_ _
      refine ⟨rfl, g, fun i => b'.tmps.getD i undef, Nat.le_trans HB1.out.size hg, hb.trans (below_row hg), setRow_heap _ _ _ _ _ _ hh, ?_⟩
      have e := Rg.litG b'.tmps 13 hs
      obtain ⟨tm, df⟩ := b'
      obtain rfl : df = [] := hd
      dsimp only at r0 r1 r2 r4 e5 e ⊢
      show ({ tmps := tm, defers := [] } : Act) = _
      congr 1
      refine e.trans ?_
      rw [← r0, ← r1, ← r2, ← r4, ← e5]
      rfl
  case rest =>
    rintro e a' W2 ⟨rfl, g, f, hg, hb2, hd, rfl⟩
    rename_i K0 hK0
    show K0 _ _
    refine hK0 _ _ ?_
    clear hK0 K0
    have hr : RowIs W2 (some ⟨g, 0, none⟩) (bytesV (Da.sb k n)) 8 := by
      have h32 := hd.row (by rw [Da.hmac_length]; unfold maxLen; decide)
      have := h32.part 0 8 (by simp [Da.hmac_length]) 8 (Nat.le_refl _) (by unfold maxLen; decide)
      simpa [bytesV, Da.sb, List.map_take] using this
    have HR := Lib.hid hr
    have HB2 := Lib.hid (Kit.step HB1.out hb2)
    have HGL := Lib.hid hg
    clear hr hb2 hd hg
    go_wp2_with fail
    go_ret
    exact ⟨g, rfl, HGL.out, HR.out, HB2.out⟩
theorem sblk_any (k : List UInt8) (n : Int) (p : Nat) (w : World) (hA : Arr w p 74 (bytesV (Da.fil k))) (hV : Cds w) :
    Calls Tryd.prog 21 #[.agg #[.pointer (some ⟨p, 0, none⟩)], .int .i64 n] w fun e w' => ∃ g, e = .returned (.slice (some ⟨g, 0, none⟩) 8 8) ∧ w.heap.size ≤ g ∧ RowIs w' (some ⟨g, 0, none⟩) (bytesV (Da.sb k n)) 8 ∧ Below w.heap.size w w' :=
  sblk_of _ rfl dg_zero k n p w hA hV
end Go.Proofs.YtaanjlbkncfnbaaDoor
