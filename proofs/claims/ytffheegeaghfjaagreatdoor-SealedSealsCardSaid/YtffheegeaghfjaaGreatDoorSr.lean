/- Sr -/
import Derived.Test.YtffheegeaghfjaaGreatDoorLy
set_option linter.unusedVariables false
set_option linter.unusedSimpArgs false
set_option maxRecDepth 100000
set_option maxHeartbeats 8000000
namespace Go.Proofs.YtffheegeaghfjaaGreatDoor.Rg
open Go.RowKit
theorem region_to {P : Program} {ops : Array Oper} {id : Nat} {Q : Exit -> Act -> World -> Prop} {a : Act} {w : World} (hm : P.follows .mixedOrders = true) (E : Nat -> Bool) (G : Nat -> Value -> World -> Prop) (hok : okTo ops a.tmps.size E (fun _ => false) = true)
    (hkeep : ∀ i x v v', G i x v -> Below v.heap.size v v' -> G i x v')
    (hstep : ∀ (i : Nat) (o : Oper) (b : Act) (v : World), E i = true -> ops[i]? = some o -> Below w.heap.size w v -> (∀ s, (∀ (i : Nat) (o : Oper), E i = true -> ops[i]? = some o -> o.dst ≠ some s) -> b.tmps.getD s undef = a.tmps.getD s undef) ->
      (∀ e ∈ o.after, Region.binds .any e = true -> E e.on = true -> ∀ (o' : Oper) (d : Tmp), ops[e.on]? = some o' -> o'.dst = some d -> G e.on (b.tmps.getD d undef) v) -> Does P G Q i o b v)
    (hend : ∀ b v, Below w.heap.size w v -> b.tmps.size = a.tmps.size -> b.defers = a.defers -> (∀ s, (∀ (i : Nat) (o : Oper), E i = true -> ops[i]? = some o -> o.dst ≠ some s) -> b.tmps.getD s undef = a.tmps.getD s undef) ->
      (∀ (i : Nat) (o : Oper) (d : Tmp), E i = true -> ops[i]? = some o -> o.dst = some d -> G i (b.tmps.getD d undef) v) -> wpAnyH P .any ops Q (fun _ => True) (left (tail ops.size E (fun _ => false))) (tail ops.size E (fun _ => false)) b v) :
    (Code.region id ops true).wp P Q a w := by
 have hb0 : Below w.heap.size w w.drew := (Below.refl _ _).drew
 refine wp_region_any hm (wpAny_of_held _ _ _ _ (any_to (S := fun _ => True) (a := a) (w := w.drew) (G := G) (N := a.tmps.size) hok (fun _ _ => trivial) hkeep
  (fun i o b v hE ho hb hr hd => hstep i o b v hE ho (hb0.trans hb) hr hd) (fun b v hb hs hd hr hg => hend b v (hb0.trans hb) hs hd hr hg) _ _ _ _ ?_ ⟨Below.refl _ _, rfl, rfl, fun _ _ => rfl, ?_, by simp, ?_, ?_⟩))
 ·unfold left
  simp
 ·intro i o d _ ho _ hl
  have hi := (aE.1 ho).1
  simp [Array.getD_eq_getD_getElem?, hi] at hl
 ·intro i _ hi
  simp [Array.getD_eq_getD_getElem?, hi]
 ·intro i h
  cases h
theorem op_store_row {P : Program} {ops : Array Oper} {Q : Exit -> Act -> World -> Prop} {i g : Nat} {o : Oper} {ty t : TypeId} {x y : Operand} {cells old : Array Value} {b : Act} {v : World} {K : Act -> World -> Prop} (ho : ops[i]? = some o) (hg : o.guard = none)
    (hop : o.op = .store ty x y) (hx : b.eval x = .pointer (some ⟨g, 0, none⟩)) (hy : b.eval y = .agg cells) (hh : v.heap[g]? = some (.cells old t (0, 0))) (hi : (P.info? ty).map (·.size) = some cells.size) (hold : old.size = cells.size) (h1 : cells.all (·.oneCell') = true)
    (h : K (b.put o.dst undef) (v.setRow g cells)) : wpOp P ops Q i K b v := by
 unfold wpOp
 rw [ho]
 dsimp only
 rw [if_pos (by simp [Region.wanted, hg])]
 exact .inl (wp_store_row ty x y hop g cells hx hy t old hh hi hold h1 h)
theorem litG (a : Array Value) (n : Nat) (h : a.size = n) : a = ((List.range n).map fun i => a.getD i undef).toArray := by
 subst h
 apply Array.ext
 ·simp
 ·intro i h1 h2
  simp [Array.getD_eq_getD_getElem?, h1]
end Go.Proofs.YtffheegeaghfjaaGreatDoor.Rg
namespace Go.Proofs.YtffheegeaghfjaaGreatDoor.Da
def sb (k : List UInt8) (n : Int) : List UInt8 := (hmac k (num8 n)).take 8
def nbe (l : List UInt8) : Nat := l.foldl (fun s b => s * 256 + b.toNat) 0
theorem sb_length (k : List UInt8) (n : Int) : (sb k n).length = 8 := by simp [sb, hmac_length]
theorem nbe_zero (l : List UInt8) : nbe (l.take 0) = 0 := rfl
theorem nbe_step (l : List UInt8) (j : Nat) (hj : j < l.length) : nbe (l.take (j + 1)) = nbe (l.take j) * 256 + (l.getD j 0).toNat := by
 unfold nbe
 rw [List.take_add_one, List.getElem?_eq_getElem hj, List.foldl_append]
 simp [hj]
end Go.Proofs.YtffheegeaghfjaaGreatDoor.Da
namespace Go.Proofs.YtffheegeaghfjaaGreatDoor
open Go.RowKit
theorem src_built (p : Nat) : Tryz.prog.built 170 [(0, .pointer (some ⟨p, 0, none⟩))] = some #[.pointer (some ⟨p, 0, none⟩)] := by kernel_rfl
theorem src_one (p : Nat) : (#[.pointer (some ⟨p, 0, none⟩)] : Array Value).all (·.oneCell') = true := all_oneCell_toArray (cs := [.pointer (some ⟨p, 0, none⟩)]) (fun u hu => by rw [List.mem_singleton] at hu; subst hu; rfl)
theorem src_size : (Tryz.prog.info? 170).map (·.size) = some 1 := by kernel_rfl
theorem sof10_any (k : List UInt8) (o : Option Addr) (c : Nat) (w : World) (hR : RowIs w o (bytesV k) c) (hV : Cds w) (hl : k.length <= 900000) :
    Calls Tryz.prog 96 #[.slice o k.length c] w fun e w' => ∃ p, e = .returned (.agg #[.pointer (some ⟨p, 0, none⟩)]) /\ Arr w' p 175 (bytesV (Da.fil k)) /\ Below w.heap.size w w' := by
 obtain ⟨g, hg⟩ : ∃ g, w.heap.size = g := ⟨_, rfl⟩
 obtain ⟨W1, hW1⟩ : ∃ W1, w.alloc (.cells #[.pointer none] 170) = W1 := ⟨_, rfl⟩
 have hb1 : Below w.heap.size w W1 := by rw [<- hW1]; exact (Below.refl _ _).alloc (Nat.le_refl _) _
 have hA1 : Arr W1 g 170 [.pointer none] := by rw [<- hW1, <- hg]; exact Arr.made _ _ _
 have KM := Lh (kmake_any k o c W1 (hR.later hb1) (hV.later hb1) hl)
 have HA1 := Lh hA1
 have HB1 := Lh hb1
 have HG := Lh hg
 have HW1 := Lh hW1
 clear hR hV hb1 hA1 hg hW1
 go_enter Tryz.func96, Tryz.ntmps96
 go_wp2_with (first | rw [HW1.out])
 refine KM.out.mono ?_
 rintro e W2 ⟨rfl, hk, hb2⟩
 obtain ⟨p, hp⟩ : ∃ p, W1.heap.size = p := ⟨_, rfl⟩
 rw [hp] at hk ⊢
 have hA2 := HA1.out.later hb2 HA1.out.lt
 obtain ⟨W3, hW3⟩ : ∃ W3, W2.setRow g #[.pointer (some ⟨p, 0, none⟩)] = W3 := ⟨_, rfl⟩
 have hA3 : Arr W3 g 170 [.pointer (some ⟨p, 0, none⟩)] := by rw [<- hW3]; exact setRow_heap _ _ _ _ _ _ hA2
 have hgp : p ≠ g := by have := HA1.out.lt; omega
 have hk3 : Arr W3 p 175 (bytesV (Da.fil k)) := by rw [<- hW3]; unfold Arr; rw [setRow_other _ _ _ _ hgp]; exact hk
 have hB3 : Below w.heap.size w W3 := by rw [<- hW3]; exact (Ks HB1.out hb2).trans (below_row (by rw [HG.out]; exact Nat.le_refl _))
 have HA2 : Hid (W2.heap[g]? = some (.cells #[.pointer none] 170 (0, 0))) := Lh hA2
 have HA3 : Hid (W3.heap[g]? = some (.cells #[.pointer (some ⟨p, 0, none⟩)] 170 (0, 0))) := Lh hA3
 have HK3 := Lh hk3
 have HB3 := Lh hB3
 have HW3 := Lh hW3
 clear hk hb2 hp hA2 hA3 hW3 hgp hk3 hB3
 go_wp2_with (first | rw [HG.out] | refine wpList_built rfl 170 _ rfl [(0, .pointer (some ⟨p, 0, none⟩))] (by simp; rfl) _ (src_built p) ?_ | refine wpList_store_row rfl 170 (.tmp 2) (.tmp 5) rfl g #[.pointer (some ⟨p, 0, none⟩)] rfl rfl 170 _ HA2.out src_size rfl (src_one p) ?_ | rw [HW3.out])
 refine bodyPost_ret (results_cell_row rfl _ _ g 170 #[.pointer (some ⟨p, 0, none⟩)] (0, 0) _ rfl HA3.out Tryz.underlying170 rfl src_size) rfl ?_
 exact ⟨p, rfl, HK3.out, by have h := HB3.out; rwa [HG.out] at h⟩
def SbG (k : List UInt8) (n : Int) (b p : Nat) (Z : Array Value) (base : Nat) (i : Nat) (x : Value) (v : World) : Prop :=
 match i with
 | 0 => x = .pointer (some ⟨b, 0, none⟩)
 | 1 => x = .pointer (some ⟨p, 0, none⟩)
 | 2 => x = .int .i64 n
 | 3 => RowV (Da.num8 n) x v
 | 4 => RbV [Da.num8 n] x v
 | 5 => x = .agg (bytesV (Da.hmac k (Da.num8 n))).toArray
 | 6 => ∃ g, x = .pointer (some ⟨g, 0, none⟩) /\ base <= g /\ v.heap[g]? = some (.cells Z 32 (0, 0))
 | _ => True
theorem SbG.later {k : List UInt8} {n : Int} {b p : Nat} {Z : Array Value} {base : Nat} (i : Nat) (x : Value) (v v' : World) (h : SbG k n b p Z base i x v) (hb : Below v.heap.size v v') : SbG k n b p Z base i x v' := by
 unfold SbG at *
 split at h
 ·exact h
 ·exact h
 ·exact h
 ·exact h.later hb
 ·exact h.later hb
 ·exact h
 ·obtain ⟨g, e, hg, hh⟩ := h
  exact ⟨g, e, hg, by rw [hb.block _ (aE.1 hh).1]; exact hh⟩
 ·trivial
theorem lnum_rv {v : World} {x : Value} {n : Int} (hx : x = .int .i64 n) : Calls Tryz.prog 59 #[x] v fun e w' => ∃ r, e = .returned r /\ RowV (Da.num8 n) r w' /\ Below v.heap.size v w' := by
 subst hx
 refine (lnum_any n v).mono ?_
 rintro e w' ⟨rfl, hA, hb⟩
 have hr := hA.row (by rw [Da.num8_length]; unfold maxLen; decide)
 exact ⟨_, rfl, ⟨_, 8, by rw [Da.num8_length], by rw [Da.num8_length] at hr; exact hr⟩, hb⟩
theorem kofh_rv {v : World} {x y : Value} {k : List UInt8} {bs : List (List UInt8)} {p : Nat} (hA : Arr v p 175 (bytesV (Da.fil k))) (hx : x = .pointer (some ⟨p, 0, none⟩)) (hy : RbV bs y v) (hV : Cds v) (hl : bs.flatten.length <= 800000) (hn : bs.length <= 1000000) :
    Calls Tryz.prog 131 #[x, y] v fun e w' => ∃ r, e = .returned r /\ r = .agg (bytesV (Da.hmac k bs.flatten)).toArray /\ Below v.heap.size v w' := by
 subst hx
 obtain ⟨o, c, rfl, hR⟩ := hy
 refine (kofh_any k p bs o c v hA hR hV hl hn).mono ?_
 rintro e w' ⟨rfl, hb⟩
 exact ⟨_, rfl, rfl, hb⟩
theorem sblk_of (Z : Array Value) (hZ : Z = (bytesV (List.replicate 32 0)).toArray) (hzs : ∀ w, Sem.run Tryz.prog (zeroValue 32) w = .ok (.agg Z) w) (k : List UInt8) (n : Int) (p : Nat) (w : World) (hA : Arr w p 175 (bytesV (Da.fil k))) (hV : Cds w) :
    Calls Tryz.prog 97 #[.agg #[.pointer (some ⟨p, 0, none⟩)], .int .i64 n] w fun e w' => ∃ g, e = .returned (.slice (some ⟨g, 0, none⟩) 8 8) /\ w.heap.size <= g /\ RowIs w' (some ⟨g, 0, none⟩) (bytesV (Da.sb k n)) 8 /\ Below w.heap.size w w' := by
 have hmf := @makes Tryz.prog
 obtain ⟨b, hbe⟩ : ∃ b, w.heap.size = b := ⟨_, rfl⟩
 obtain ⟨W1, hW1⟩ : ∃ W1, w.alloc (.cells #[.pointer (some ⟨p, 0, none⟩)] 170) = W1 := ⟨_, rfl⟩
 have hb1 : Below w.heap.size w W1 := by rw [<- hW1]; exact (Below.refl _ _).alloc (Nat.le_refl _) _
 have hA1 : Arr W1 b 170 [.pointer (some ⟨p, 0, none⟩)] := by rw [<- hW1, <- hbe]; exact Arr.made _ _ _
 have HA1 := Lh hA1
 have HB1 := Lh hb1
 have HE := Lh hbe
 have HW1 := Lh hW1
 have HA := Lh (hA.later hb1 hA.lt)
 have HV := Lh (hV.later hb1)
 clear hb1 hA1 hbe hW1 hA hV
 go_enter Tryz.func97, Tryz.ntmps97
 go_wp2_with (first | rw [HW1.out, HE.out])
 refine Code.wp_mono (Q := fun e b' v => e = .normal /\ ∃ (g : Nat) (f : Nat -> Value), w.heap.size <= g /\ Below W1.heap.size W1 v /\ Arr v g 32 (bytesV (Da.hmac k (Da.num8 n))) /\ b' = { tmps := #[.agg #[.pointer (some ⟨p, 0, none⟩)], .int .i64 n, .pointer (some ⟨b, 0, none⟩), f 3, .slice none 0 0, .pointer (some ⟨g, 0, none⟩), f 6, f 7, f 8, f 9, f 10, f 11, f 12], defers := [] }) ?rest ?reg
 case reg =>
  refine Rg.region_to (by kernel_rfl) (fun i => decide (i < 7)) (SbG k n b p Z W1.heap.size) (by kernel_rfl) SbG.later ?step ?fin
  case step =>
   intro i op b' v hE ho hb hrest hdep
   have hi := (aE.1 ho).1
   have r2 : b'.eval (.tmp 2) = .pointer (some ⟨b, 0, none⟩) := hrest 2 (Rg.freeOf_spec (by kernel_rfl))
   have r1 : b'.eval (.tmp 1) = .int .i64 n := hrest 1 (Rg.freeOf_spec (by kernel_rfl))
   match i, hi with
   | 0, _ =>
    obtain rfl := Option.some.inj ho
    refine Rg.does_pure (.pointer (some ⟨b, 0, none⟩)) ?_ rfl
    have f1 : b'.tmps[2]?.getD undef = _ := (show _ = b'.eval (.tmp 2) by simp [Act.eval]).trans r2
    simp only [execOp]
    go_simp
   | 1, _ =>
    obtain rfl := Option.some.inj ho
    have d1 : b'.eval (.tmp 6) = .pointer (some ⟨b, 0, none⟩) := hdep ⟨0, .data⟩ (by simp) rfl rfl _ _ rfl rfl
    have f1 : b'.tmps[6]?.getD undef = _ := (show _ = b'.eval (.tmp 6) by simp [Act.eval]).trans d1
    have hc : v.cell? ⟨b, 0, none⟩ = some (.pointer (some ⟨p, 0, none⟩)) := (HA1.out.later hb HA1.out.lt).cell 0
    refine Rg.does_pure (.pointer (some ⟨p, 0, none⟩)) ?_ rfl
    simp only [execOp]
    go_simp
   | 2, _ =>
    obtain rfl := Option.some.inj ho
    exact Rg.does_move rfl r1
   | 3, _ =>
    obtain rfl := Option.some.inj ho
    have d1 : b'.eval (.tmp 8) = .int .i64 n := hdep ⟨2, .data⟩ (by simp) rfl rfl _ _ rfl rfl
    exact Rg.does_fn rfl (enters_of Tryz.func59 (by kernel_rfl) rfl) (args := #[b'.eval (.tmp 8)]) (by simp) (lnum_rv d1)
   | 4, _ =>
    obtain rfl := Option.some.inj ho
    have d1 : RowV (Da.num8 n) (b'.eval (.tmp 9)) v := hdep ⟨3, .data⟩ (by simp) rfl rfl _ _ rfl rfl
    have f1 : b'.tmps[9]?.getD undef = b'.eval (.tmp 9) := by simp [Act.eval]
    generalize b'.eval (.tmp 9) = x1 at d1 f1
    obtain ⟨o1, c1, rfl, hr1⟩ := d1
    have hrun : RbV [Da.num8 n] (.slice (some ⟨v.heap.size, 0, none⟩) 1 1) (v.alloc (.cells #[.slice o1 (Da.num8 n).length c1] 22)) := ⟨_, 1, rfl, one_part hr1⟩
    refine Rg.does_new (v' := v.alloc (.cells #[.slice o1 (Da.num8 n).length c1] 22)) (.slice (some ⟨v.heap.size, 0, none⟩) 1 1) ?_ hrun ((Below.refl _ _).alloc (Nat.le_refl _) _)
    simp only [execOp]
    go_simp
   | 5, _ =>
    obtain rfl := Option.some.inj ho
    have d1 : b'.eval (.tmp 7) = .pointer (some ⟨p, 0, none⟩) := hdep ⟨1, .data⟩ (by simp) rfl rfl _ _ rfl rfl
    have d2 : RbV [Da.num8 n] (b'.eval (.tmp 10)) v := hdep ⟨4, .data⟩ (by simp) rfl rfl _ _ rfl rfl
    have hk := kofh_rv (HA.out.later hb HA.out.lt) d1 d2 (HV.out.later hb) (by simp [Da.num8_length]) (by simp)
    rw [show [Da.num8 n].flatten = Da.num8 n by simp] at hk
    exact Rg.does_fn rfl (enters_of Tryz.func131 (by kernel_rfl) rfl) (args := #[b'.eval (.tmp 7), b'.eval (.tmp 10)]) (by simp) hk
   | 6, _ =>
    obtain rfl := Option.some.inj ho
    refine Rg.does_new (v' := v.alloc (.cells Z 32)) (.pointer (some ⟨v.heap.size, 0, none⟩)) ?_ ⟨_, rfl, hb.size, World.alloc_heap_new _ _⟩ ((Below.refl _ _).alloc (Nat.le_refl _) _)
    simp only [execOp]
    go_simp
   | 7, _ => exact absurd hE (by decide)
   | m + 8, h => exact absurd h (by simp)
  case fin =>
   intro b' v hb hs hd hrest hall
   have r0 : b'.tmps.getD 0 undef = .agg #[.pointer (some ⟨p, 0, none⟩)] := hrest 0 (Rg.freeOf_spec (by kernel_rfl))
   have r1 : b'.tmps.getD 1 undef = .int .i64 n := hrest 1 (Rg.freeOf_spec (by kernel_rfl))
   have r2 : b'.tmps.getD 2 undef = .pointer (some ⟨b, 0, none⟩) := hrest 2 (Rg.freeOf_spec (by kernel_rfl))
   have r4 : b'.tmps.getD 4 undef = .slice none 0 0 := hrest 4 (Rg.freeOf_spec (by kernel_rfl))
   obtain ⟨g, e5, hg, hh⟩ := hall 6 _ 5 rfl rfl rfl
   have e11 : b'.tmps.getD 11 undef = .agg (bytesV (Da.hmac k (Da.num8 n))).toArray := hall 5 _ 11 rfl rfl rfl
   change wpAnyH _ _ _ _ _ 1 _ _ _
   refine wpAnyH_all (rs := [7]) (by kernel_rfl) (by simp) (fun i hi => ?_)
   obtain rfl : i = 7 := by simpa using hi
   refine Rg.op_store_row (g := g) rfl rfl rfl e5 e11 hh (by rw [dg_info]; simp [Da.hmac_length]) (by rw [hZ]; simp [Da.hmac_length]) (all_oneCell_toArray (bytesV_one _)) ⟨trivial, ?_⟩
   refine wpAnyH_done (by kernel_rfl) ?_ _
   refine ⟨rfl, g, fun i => b'.tmps.getD i undef, Nat.le_trans HB1.out.size hg, hb.trans (below_row hg), setRow_heap _ _ _ _ _ _ hh, ?_⟩
   have e := Rg.litG b'.tmps 13 hs
   obtain ⟨tm, df⟩ := b'
   obtain rfl : df = [] := hd
   dsimp only at r0 r1 r2 r4 e5 e ⊢
   show ({ tmps := tm, defers := [] } : Act) = _
   congr 1
   refine e.trans ?_
   rw [<- r0, <- r1, <- r2, <- r4, <- e5]
   rfl
 case rest =>
  rintro e a' W2 ⟨rfl, g, f, hg, hb2, hd, rfl⟩
  rename_i K0 hK0
  show K0 _ _
  refine hK0 _ _ ?_
  clear hK0 K0
  have hr : RowIs W2 (some ⟨g, 0, none⟩) (bytesV (Da.sb k n)) 8 := by
   have h32 := hd.row (by rw [Da.hmac_length]; unfold maxLen; decide)
   have := h32.part 0 8 (by simp [Da.hmac_length]) 8 (Nat.le_refl _) (by unfold maxLen; decide)
   simpa [bytesV, Da.sb, List.map_take] using this
  have HR := Lh hr
  have HB2 := Lh (Ks HB1.out hb2)
  have HGL := Lh hg
  clear hr hb2 hd hg
  go_wp2_with fail
  go_ret
  exact ⟨g, rfl, HGL.out, HR.out, HB2.out⟩
theorem sblk_any (k : List UInt8) (n : Int) (p : Nat) (w : World) (hA : Arr w p 175 (bytesV (Da.fil k))) (hV : Cds w) :
    Calls Tryz.prog 97 #[.agg #[.pointer (some ⟨p, 0, none⟩)], .int .i64 n] w fun e w' => ∃ g, e = .returned (.slice (some ⟨g, 0, none⟩) 8 8) /\ w.heap.size <= g /\ RowIs w' (some ⟨g, 0, none⟩) (bytesV (Da.sb k n)) 8 /\ Below w.heap.size w w' :=
 sblk_of _ rfl dg_zero k n p w hA hV
theorem sran_any (n : Int) (w : World) : Calls Tryz.prog 95 #[.int .i64 n] w fun e w' => e = .returned (.bool (Da.inR n)) /\ w' = w := by
 by_cases h1 : 0 <= n
 ·have hd1 : decide (n >= 0) = true := by simp; omega
  by_cases h2 : n <= 1099511627776
  ·have hd2 : decide (n <= 1099511627776) = true := by simp; omega
   have hr : Da.inR n = true := by simp [Da.inR, h1, h2]
   rw [hr]
   go_enter Tryz.func95, Tryz.ntmps95
   go_wp2_with fail
   go_ret
   exact ⟨rfl, rfl⟩
  ·have hd2 : decide (n <= 1099511627776) = false := by simp; omega
   have hr : Da.inR n = false := by simp [Da.inR, h2]
   rw [hr]
   go_enter Tryz.func95, Tryz.ntmps95
   go_wp2_with fail
   go_ret
   exact ⟨rfl, rfl⟩
 ·have hd1 : decide (n >= 0) = false := by simp; omega
  have hr : Da.inR n = false := by simp [Da.inR, h1]
  rw [hr]
  go_enter Tryz.func95, Tryz.ntmps95
  go_wp2_with fail
  go_ret
  exact ⟨rfl, rfl⟩
theorem or_add (p q : Nat) (hq : q < 256) : p * 256 ||| q = p * 256 + q := by
 have := Nat.shiftLeft_add_eq_or_of_lt (i := 8) (b := q) (by omega) p
 rw [Nat.shiftLeft_eq] at this
 exact this.symm
end Go.Proofs.YtffheegeaghfjaaGreatDoor
namespace Go.Proofs.YtffheegeaghfjaaGreatDoor.Da
def rb (n : Int) : Nat := if inR n then 0 else 1
def mb (b : List UInt8) (n : Int) : Nat := if b.length = 8 then rb n else 8
theorem rb_zero {n : Int} (h : rb n = 0) : 0 <= n /\ n <= 1099511627776 := by
 unfold rb inR at h
 split at h
 ·rename_i h1; simpa using h1
 ·cases h
theorem mb_zero {b : List UInt8} {n : Int} (h : mb b n = 0) : b.length = 8 /\ rb n = 0 := by
 unfold mb at h
 split at h
 ·exact ⟨by assumption, h⟩
 ·cases h
end Go.Proofs.YtffheegeaghfjaaGreatDoor.Da
namespace Go.Proofs.YtffheegeaghfjaaGreatDoor.Er
open Go.RowKit
structure E10 (W : World) (A : Nat -> Addr) : Prop where
 c0 : W.cell? ⟨1, 0, none⟩ = some (.iface 256 (.pointer (some (A 0))))
 c7 : W.cell? ⟨0, 0, none⟩ = some (.iface 256 (.pointer (some (A 7))))
theorem E10.later {W W' : World} {A : Nat -> Addr} (h : E10 W A) (hb : Below W.heap.size W W') : E10 W' A := ⟨cell_later h.c0 hb, cell_later h.c7 hb⟩
end Go.Proofs.YtffheegeaghfjaaGreatDoor.Er
namespace Go.Proofs.YtffheegeaghfjaaGreatDoor
open Go.RowKit
theorem cblk_own (k : List UInt8) (o : Option Addr) (c : Nat) (n : Int) (A : Nat -> Addr) (w : World) (hR : RowIs w o (bytesV k) c) (hV : Cds w) (hE : Er.E10 w A) (hl : k.length <= 900000) :
    Calls Tryz.prog 51 #[.slice o k.length c, .int .i64 n] w fun e w' => ∃ x, e = .returned (.tuple #[x, errV A (Da.rb n)]) /\ RowV (Da.kres (Da.rb n) (Da.sb k n)) x w' /\ Below w.heap.size w w' /\ (∀ ad l c, x = .slice (some ad) l c -> w.heap.size <= ad.block) := by
 have SO := Lh (sof10_any k o c w hR hV hl)
 have SR := Lh (sran_any n w)
 have hE0 := hE.c0
 have HV := Lh hV
 obtain ⟨r, hr⟩ : ∃ r, Da.inR n = r := ⟨_, rfl⟩
 unfold Da.rb
 rw [hr] at SR ⊢
 clear hR hV hE hr
 go_enter Tryz.func51, Tryz.ntmps51
 go_wp2_with fail
 refine SR.out.mono ?_
 rintro e w1 ⟨rfl, rfl⟩
 cases r with
 | false =>
  go_wp2_with fail
  go_region
  go_wp2_with fail
  refine bodyPost_ret (results_tmp2 rfl _ _ _) rfl ?_
  exact ⟨.slice none 0 0, rfl, RowV.nil _, Kit.dn' _ 1, fun ad l c h => by cases h⟩
 | true =>
  clear hE0
  go_wp2_with fail
  refine SO.out.mono ?_
  rintro e w1 ⟨p, rfl, hk, hb1⟩
  have SB := Lh (sblk_any k n p w1 hk (HV.out.later hb1))
  have HB1 := Lh hb1
  clear hk hb1 SO
  go_wp2_with fail
  refine SB.out.mono ?_
  rintro e w2 ⟨g, rfl, hgl, hr, hb2⟩
  have HROW : Hid (RowV (Da.sb k n) (.slice (some ⟨g, 0, none⟩) 8 8) w2) := Lh ⟨_, 8, by rw [Da.sb_length], hr⟩
  have HGL := Lh (Nat.le_trans HB1.out.size hgl)
  have HB2 := Lh (Ks HB1.out hb2)
  clear hb2 hr SB hgl
  go_wp2_with fail
  refine bodyPost_ret (results_tmp2 rfl _ _ _) rfl ?_
  exact ⟨.slice (some ⟨g, 0, none⟩) 8 8, rfl, HROW.out, HB2.out, fun ad l c h => by cases h; exact HGL.out⟩
theorem flt_any (n : Int) (b : List UInt8) (o : Option Addr) (c : Nat) (A : Nat -> Addr) (w : World) (hE : Er.E10 w A) :
    Calls Tryz.prog 117 #[.int .i64 n, .slice o b.length c] w fun e w' => e = .returned (errV A (Da.mb b n)) /\ Below w.heap.size w w' := by
 have hE0 := hE.c0
 have hE7 := hE.c7
 have SR := Lh (sran_any n w)
 obtain ⟨r, hr⟩ : ∃ r, Da.inR n = r := ⟨_, rfl⟩
 obtain ⟨m, hm⟩ : ∃ m, b.length = m := ⟨_, rfl⟩
 unfold Da.mb Da.rb
 rw [hr] at SR ⊢
 rw [hm]
 clear hE hr hm
 by_cases h8 : m = 8
 ·subst h8
  rw [if_pos rfl]
  clear hE7
  go_enter Tryz.func117, Tryz.ntmps117
  go_wp2_with fail
  refine SR.out.mono ?_
  rintro e w1 ⟨rfl, rfl⟩
  cases r with
  | false =>
   go_wp2_with fail
   go_ret
   exact ⟨rfl, Below.refl _ _⟩
  | true =>
   go_wp2_with fail
   go_ret
   exact ⟨rfl, Below.refl _ _⟩
 ·rw [if_neg h8]
  have hd1 : ((m : Int) != 8) = true := by rw [bne_iff_ne]; omega
  clear hE0
  go_enter Tryz.func117, Tryz.ntmps117
  go_wp2_with fail
  go_ret
  exact ⟨rfl, Below.refl _ _⟩
end Go.Proofs.YtffheegeaghfjaaGreatDoor
namespace Go.Proofs.YtffheegeaghfjaaGreatDoor.Da
def xr (a b : List UInt8) : List UInt8 := List.zipWith (· ^^^ ·) a b
def putL (Z : List UInt8) (o : Nat) (x : List UInt8) : List UInt8 := Z.take o ++ x ++ Z.drop (o + x.length)
theorem xr_length (a b : List UInt8) : (xr a b).length = min a.length b.length := by simp [xr]
theorem xr_at (a b : List UInt8) (j : Nat) (ha : j < a.length) (hb : j < b.length) : (xr a b).getD j 0 = a.getD j 0 ^^^ b.getD j 0 := by
 have hx : j < (xr a b).length := by rw [xr_length]; omega
 simp [xr, List.getElem?_zipWith, ha, hb]
theorem putL_nil (Z : List UInt8) (o : Nat) : putL Z o [] = Z := by simp [putL]
theorem putL_length (Z : List UInt8) (o : Nat) (x : List UInt8) (h : o + x.length <= Z.length) : (putL Z o x).length = Z.length := by simp [putL]; omega
theorem putL_step (Z : List UInt8) (o : Nat) (x : List UInt8) (j : Nat) (hj : j < x.length) (h : o + x.length <= Z.length) : (putL Z o (x.take j)).set (o + j) (x.getD j 0) = putL Z o (x.take (j + 1)) := by
 apply List.ext_getElem
 ·rw [List.length_set, putL_length _ _ _ (by simp; omega), putL_length _ _ _ (by simp; omega)]
 ·intro i h1 h2
  rw [List.getElem_set]
  simp only [putL, List.length_take, List.append_assoc]
  by_cases e : o + j = i
  ·subst e
   have m1 : min o Z.length = o := by omega
   have m3 : min (j + 1) x.length = j + 1 := by omega
   simp only [List.getElem_append, List.length_take, List.getElem_take, List.getElem_drop, m1, m3, show ¬ o + j < o by omega, show o + j - o < j + 1 by omega, dif_pos, dif_neg, not_false_eq_true]
   simp [hj]
  ·rw [if_neg e]
   simp only [List.getElem_append, List.length_take, List.getElem_take, List.getElem_drop]
   have m1 : min o Z.length = o := by omega
   have m2 : min j x.length = j := by omega
   have m3 : min (j + 1) x.length = j + 1 := by omega
   simp only [m1, m2, m3]
   by_cases c1 : i < o
   ·simp [c1]
   ·by_cases c2 : i - o < j
    ·simp [c1, c2, show i - o < j + 1 by omega]
    ·simp only [c1, c2, show ¬ i - o < j + 1 by omega, dif_neg, not_false_eq_true]
     congr 1
     omega
end Go.Proofs.YtffheegeaghfjaaGreatDoor.Da
namespace Go.Proofs.YtffheegeaghfjaaGreatDoor
open Go.RowKit
theorem grown_trans {w1 w2 w3 : World} {r : Option Nat} (h1 : w1.grownBy w2 r) (h2 : w2.grownBy w3 r) : w1.grownBy w3 r :=
 ⟨h2.os.trans h1.os, h2.tape.trans h1.tape, h2.output.trans h1.output, Nat.le_trans h1.size h2.size, fun k hk hr => (h2.block k (Nat.lt_of_lt_of_le hk h1.size) hr).trans (h1.block k hk hr)⟩
def Ly10At (Z x : List UInt8) (g o : Nat) (w : World) (i : Value) (wr : World) : Prop :=
 ∃ j : Nat, j <= 8 /\ i = .int .i64 j /\ Arr wr g 5 (bytesV (Da.putL Z o (x.take j))) /\ w.grownBy wr (some g)
theorem lay10_any (Z a b : List UInt8) (g o : Nat) (oa ob : Option Addr) (ca cb : Nat) (w : World) (hZ : o + 8 <= Z.length) (hZm : Z.length <= 1000000) (hA : Arr w g 5 (bytesV Z)) (ha : RowIs w oa (bytesV a) ca) (hb : RowIs w ob (bytesV b) cb) (hal : a.length = 8) (hbl : b.length = 8)
    (hna : ∀ ad, oa = some ad -> ad.block ≠ g) (hnb : ∀ ad, ob = some ad -> ad.block ≠ g) :
    Calls Tryz.prog 118 #[.slice (some ⟨g, o, none⟩) 8 8, .slice oa 8 ca, .slice ob 8 cb] w fun e w' => e = .returned (.tuple #[]) /\ Arr w' g 5 (bytesV (Da.putL Z o (Da.xr a b))) /\ w.grownBy w' (some g) := by
 have hx8 : (Da.xr a b).length = 8 := by rw [Da.xr_length, hal, hbl]; rfl
 have HX0 : Hid (Ly10At Z (Da.xr a b) g o w (.int .i64 0) w) := Lh ⟨0, by omega, rfl, by rw [List.take_zero, Da.putL_nil]; exact hA, World.grownBy.refl _ _⟩
 have HXE : Hid (Da.xr a b = (Da.xr a b).take 8) := Lh (List.take_of_length_le (by omega)).symm
 have HA := Lh ha
 have HB := Lh hb
 have HNA := Lh hna
 have HNB := Lh hnb
 clear hA ha hb hna hnb
 go_enter Tryz.func118, Tryz.ntmps118
 go_wp2_with fail
 go_loopw [9] (fun i wr => Ly10At Z (Da.xr a b) g o w i wr) (fun i _ => 8 - (intOf i).toNat)
 case atStart => exact HX0.out
 case round =>
  obtain ⟨j, hj, rfl, hG, hgr⟩ := hrel
  by_cases hlt : j < 8
  ·obtain ⟨x, hx⟩ : ∃ x, a.getD j 0 = x := ⟨_, rfl⟩
   obtain ⟨y, hy⟩ : ∃ y, b.getD j 0 = y := ⟨_, rfl⟩
   obtain ⟨ba, oa, rfl, _, hca0⟩ := (HA.out.kept hgr (fun _ ad e h => HNA.out ad e (by cases h; rfl))).cells (by simp [hal])
   obtain ⟨bb, ob, rfl, _, hcb0⟩ := (HB.out.kept hgr (fun _ ad e h => HNB.out ad e (by cases h; rfl))).cells (by simp [hbl])
   have hca := hca0 j _ (bytesV_get a j (by omega))
   have hcb := hcb0 j _ (bytesV_get b j (by omega))
   have hcg : wr.cell? ⟨g, o + j, none⟩ = some (.int .u8 (((Da.putL Z o ((Da.xr a b).take j)).getD (o + j) 0).toNat : Int)) := by rw [hG.cell]; exact bytesV_get _ _ (by rw [Da.putL_length _ _ _ (by simp; omega)]; omega)
   have hfz := hG.frozen (o + j)
   have HX : Hid (bits .xor .u8 (x.toNat : Int) (y.toNat : Int) = ((x ^^^ y).toNat : Int)) := Lh (by
    rw [u8_xor_nat _ _ (UInt8.toNat_lt _) (UInt8.toNat_lt _), UInt8.toNat_xor])
   have HST : Hid ((Da.putL Z o ((Da.xr a b).take j)).set (o + j) (x ^^^ y) = Da.putL Z o ((Da.xr a b).take (j + 1))) := Lh (by
    rw [<- Da.putL_step Z o _ j (by omega) (by omega), Da.xr_at a b j (by omega) (by omega), hx, hy])
   rw [hx] at hca
   rw [hy] at hcb
   obtain ⟨V, hV⟩ : ∃ V, Da.putL Z o ((Da.xr a b).take j) = V := ⟨_, rfl⟩
   rw [hV] at hG hcg HST
   have HG := Lh hG
   have HGR := Lh hgr
   clear hG hgr hx hy hV HX0 hca0 hcb0
   go_wp2_with fail
   go_region
   go_wp2_with fail
   refine ⟨⟨j + 1, by omega, rfl, ?_, ?_⟩, by simp [intOf]; omega⟩
   ·rw [<- HST.out, <- bytesV_set', HX.out]
    exact (HG.out.set (o + j) _).drew
   ·have hgs := grown_set HG.out (o + j) (.int .u8 (bits .xor .u8 (x.toNat : Int) (y.toNat : Int)))
    exact grown_trans HGR.out ⟨hgs.os, hgs.tape, hgs.output, hgs.size, hgs.block⟩
  ·obtain rfl : j = 8 := by omega
   have HG := Lh hG
   have HGR := Lh hgr
   clear hG hgr HX0
   go_wp2_with fail
   refine bodyPost_end (results_none rfl _ _ _) rfl ?_
   exact ⟨rfl, by rw [HXE.out]; exact HG.out, HGR.out⟩
end Go.Proofs.YtffheegeaghfjaaGreatDoor
namespace Go.Proofs.YtffheegeaghfjaaGreatDoor.Da
def mbs (n : Int) : List (List UInt8) -> Nat
 | [] => 0
 | b :: t => if mb b n = 0 then mbs (n + 1) t else mb b n
def mk8 (k : List UInt8) (n : Int) (b : List UInt8) : List UInt8 := xr b (sb k n)
def mkL (k : List UInt8) (n : Int) : List (List UInt8) -> List (List UInt8)
 | [] => []
 | b :: t => mk8 k n b :: mkL k (n + 1) t
theorem mkL_length (k : List UInt8) (n : Int) (l : List (List UInt8)) : (mkL k n l).length = l.length := by
 induction l generalizing n with
 | nil => rfl
 | cons b t ih => simp [mkL, ih]
theorem mk8_length {k : List UInt8} {n : Int} {b : List UInt8} (h : b.length = 8) : (mk8 k n b).length = 8 := by rw [mk8, xr_length, sb_length, h]; rfl
theorem bi_at (l : List (List UInt8)) (p : Nat) (hp : p < l.length) : bi l p = l[p] := by simp [bi, hp]
theorem mbs_drop (n : Int) (l : List (List UInt8)) (p : Nat) (hp : p < l.length) : mbs (n + p) (l.drop p) = if mb (bi l p) (n + p) = 0 then mbs (n + (p + 1 : Nat)) (l.drop (p + 1)) else mb (bi l p) (n + p) := by
 rw [List.drop_eq_getElem_cons hp, mbs, <- bi_at l p hp, show n + (p : Int) + 1 = n + ((p + 1 : Nat) : Int) by omega]
theorem mbs_all (n : Int) (l : List (List UInt8)) (h : mbs n l = 0) (p : Nat) (hp : p < l.length) : mb (bi l p) (n + p) = 0 := by
 induction l generalizing n p with
 | nil => simp at hp
 | cons b t ih =>
  unfold mbs at h
  split at h
  ·rename_i hb
   cases p with
   | zero => simpa [bi] using hb
   | succ p =>
    have := ih (n + 1) h p (by simpa using hp)
    rw [show n + 1 + (p : Int) = n + ((p + 1 : Nat) : Int) by omega] at this
    simpa [bi] using this
  ·rename_i hb
   exact absurd h hb
theorem mkL_at (k : List UInt8) (n : Int) (l : List (List UInt8)) (p : Nat) (hp : p < l.length) : bi (mkL k n l) p = mk8 k (n + p) (bi l p) := by
 induction l generalizing n p with
 | nil => simp at hp
 | cons b t ih =>
  cases p with
  | zero => simp [bi, mkL]
  | succ p =>
   have := ih (n + 1) p (by simpa using hp)
   rw [show n + 1 + (p : Int) = n + ((p + 1 : Nat) : Int) by omega] at this
   simpa [bi, mkL] using this
theorem putL_at (Z : List UInt8) (o : Nat) (x : List UInt8) (h : o + x.length <= Z.length) : ((putL Z o x).drop o).take x.length = x := by
 unfold putL
 rw [List.append_assoc, List.drop_append_of_le_length (by simp; omega), List.drop_of_length_le (by simp; omega), List.nil_append, List.take_left]
theorem putL_ahead (Z : List UInt8) (o : Nat) (x : List UInt8) (i m : Nat) (h : o + x.length <= Z.length) (hi : i + m <= o) : ((putL Z o x).drop i).take m = (Z.drop i).take m := by
 unfold putL
 rw [List.append_assoc, List.drop_append_of_le_length (by simp; omega), List.take_append_of_le_length (by simp; omega), List.drop_take, List.take_take, Nat.min_eq_left (by omega)]
end Go.Proofs.YtffheegeaghfjaaGreatDoor.Da
namespace Go.Proofs.YtffheegeaghfjaaGreatDoor
open Go.RowKit
theorem arr_apart {W : World} {a b : Nat} {T U : TypeId} {xs ys : List Value} (h : Arr W a T xs) (k : Arr W b U ys) (hn : T ≠ U) : a ≠ b := fun e => by
 subst e
 have := h.symm.trans k
 cases this
 exact hn rfl
theorem arr_setRow {W : World} {a b : Nat} {T : TypeId} {xs : List Value} (h : Arr W a T xs) (hn : a ≠ b) (C : Array Value) : Arr (W.setRow b C) a T xs := by
 unfold Arr
 rw [setRow_other _ _ _ _ hn]
 exact h
theorem made_rows (n : Nat) : (madeCells (Value.slice none 0 0).cells (n * 1)).toList = List.replicate n (.slice none 0 0) := by
 rw [Nat.mul_one]
 exact toList_madeCells_one _ _
def hdrs (g N p : Nat) : List Value := (List.range N).map fun i => if i < p then .slice (some ⟨g, 8 * i, none⟩) 8 8 else .slice none 0 0
theorem hdrs_length (g N p : Nat) : (hdrs g N p).length = N := by simp [hdrs]
theorem hdrs_zero (g N : Nat) : hdrs g N 0 = List.replicate N (.slice none 0 0) := by
 apply List.ext_getElem
 ·simp [hdrs]
 ·intro i h1 h2
  simp [hdrs]
theorem hdrs_at (g N p i : Nat) (hi : i < N) : (hdrs g N p)[i]? = some (if i < p then .slice (some ⟨g, 8 * i, none⟩) 8 8 else .slice none 0 0) := by simp [hdrs, hi]
theorem hdrs_step (g N p : Nat) : (hdrs g N p).set p (.slice (some ⟨g, 8 * p, none⟩) 8 8) = hdrs g N (p + 1) := by
 apply List.ext_getElem
 ·simp [hdrs]
 ·intro i h1 h2
  rw [List.getElem_set]
  by_cases e : p = i
  ·subst e
   simp [hdrs]
  ·rw [if_neg e]
   simp only [hdrs, List.getElem_map, List.getElem_range]
   by_cases c : i < p
   ·rw [if_pos c, if_pos (by omega)]
   ·rw [if_neg c, if_neg (by omega)]
def Da.mkR (k : List UInt8) (n : Int) (bs : List (List UInt8)) : List (List UInt8) := if Da.mbs n bs = 0 then Da.mkL k n bs else []
theorem errV_succ (A : Nat -> Addr) (b : Nat) (h : b ≠ 0) : ∃ a, errV A b = .iface 256 (.pointer (some a)) := ⟨_, by unfold errV; rw [if_neg h]⟩
theorem errV_nil (A : Nat -> Addr) : errV A 0 = .nilIface := rfl
theorem neq_nil (v : World) : (binOp .neq 36 .nilIface .nilIface).run Tryz.prog v = .ok (.bool false) v := by kernel_rfl
def SmA (n : Int) (bs : List (List UInt8)) (w : World) (i : Value) (wr : World) : Prop :=
 ∃ p : Nat, p <= bs.length /\ i = .int .i64 p /\ Da.mbs n bs = Da.mbs (n + p) (bs.drop p) /\ (0 < p -> 0 <= n /\ n + p <= 1099511627777) /\ Below w.heap.size w wr
def SmB (k : List UInt8) (n : Int) (bs : List (List UInt8)) (N pk g4 g5 gR : Nat) (w : World) (room i : Value) (wr : World) : Prop :=
 ∃ (j : Nat) (ro : Option Addr) (Z : List UInt8), j <= N /\ i = .int .i64 j /\ room = .slice ro (8 * (N - j)) (8 * (N - j)) /\ (j < N -> ro = some ⟨gR, 8 * j, none⟩) /\ Z.length = 8 * N /\ (∀ q, q < j -> (Z.drop (8 * q)).take 8 = Da.mk8 k (n + q) (bi bs q)) /\
  Arr wr gR 5 (bytesV Z) /\ Arr wr g4 22 (hdrs gR N j) /\ Arr wr g5 170 [.pointer (some ⟨pk, 0, none⟩)] /\ Arr wr pk 175 (bytesV (Da.fil k)) /\ Below w.heap.size w wr
theorem sm_leaf (k : List UInt8) (o : Option Addr) (c : Nat) (n : Int) (N : Nat) (ob : Option Addr) (cb g4 g5 : Nat) (a : Act) (hs : a.tmps.size = 68) (hd : a.defers = []) (r0 : a.tmps.getD 0 undef = .slice o k.length c) (r1 : a.tmps.getD 1 undef = .int .i64 n) (r2 : a.tmps.getD 2 undef = .slice ob N cb) (r11 : a.tmps.getD 11 undef = .pointer (some ⟨g5, 0, none⟩)) (r12 : a.tmps.getD 12 undef = .slice (some ⟨g4, 0, none⟩) N N) :
    ∃ f : Nat -> Value, a = { tmps := #[.slice o k.length c, .int .i64 n, .slice ob N cb, f 3, f 4, f 5, f 6, f 7, f 8, f 9, f 10, .pointer (some ⟨g5, 0, none⟩), .slice (some ⟨g4, 0, none⟩) N N, f 13, f 14, f 15, f 16, f 17, f 18, f 19, f 20, f 21, f 22, f 23, f 24, f 25, f 26, f 27, f 28, f 29, f 30, f 31, f 32, f 33, f 34, f 35, f 36, f 37, f 38, f 39, f 40, f 41, f 42, f 43, f 44, f 45, f 46, f 47, f 48, f 49, f 50, f 51, f 52, f 53, f 54, f 55, f 56, f 57, f 58, f 59, f 60, f 61, f 62, f 63, f 64, f 65, f 66, f 67], defers := [] } := by
 refine ⟨fun i => a.tmps.getD i undef, ?_⟩
 have e := Rg.litG a.tmps 68 hs
 obtain ⟨tm, df⟩ := a
 obtain rfl : df = [] := hd
 dsimp only at r0 r1 r2 r11 r12 e ⊢
 show ({ tmps := tm, defers := [] } : Act) = _
 congr 1
 refine e.trans ?_
 rw [<- r0, <- r1, <- r2, <- r11, <- r12]
 rfl
theorem sm_end (k : List UInt8) (o : Option Addr) (c : Nat) (n : Int) (N : Nat) (ob : Option Addr) (cb p g4 g5 : Nat) (a : Act) (w v : World) (hs : a.tmps.size = 68) (hd : a.defers = []) (r0 : a.tmps.getD 0 undef = .slice o k.length c) (r1 : a.tmps.getD 1 undef = .int .i64 n) (r2 : a.tmps.getD 2 undef = .slice ob N cb) (r11 : a.tmps.getD 11 undef = .pointer (some ⟨g5, 0, none⟩)) (r12 : a.tmps.getD 12 undef = .slice (some ⟨g4, 0, none⟩) N N)
    (L4 : w.heap.size <= g4) (L5 : w.heap.size <= g5) (H1 : Arr v p 175 (bytesV (Da.fil k))) (H4 : Arr v g4 22 (List.replicate N (.slice none 0 0))) (H5 : Arr v g5 170 [.pointer (some ⟨p, 0, none⟩)]) (HB : Below w.heap.size w v) :
    (Exit.normal : Exit) = .normal /\ ∃ (p g4 g5 : Nat) (f : Nat -> Value), w.heap.size <= g4 /\ w.heap.size <= g5 /\ Arr v p 175 (bytesV (Da.fil k)) /\ Arr v g4 22 (List.replicate N (.slice none 0 0)) /\ Arr v g5 170 [.pointer (some ⟨p, 0, none⟩)] /\ Below w.heap.size w v /\ a = { tmps := #[.slice o k.length c, .int .i64 n, .slice ob N cb, f 3, f 4, f 5, f 6, f 7, f 8, f 9, f 10, .pointer (some ⟨g5, 0, none⟩), .slice (some ⟨g4, 0, none⟩) N N, f 13, f 14, f 15, f 16, f 17, f 18, f 19, f 20, f 21, f 22, f 23, f 24, f 25, f 26, f 27, f 28, f 29, f 30, f 31, f 32, f 33, f 34, f 35, f 36, f 37, f 38, f 39, f 40, f 41, f 42, f 43, f 44, f 45, f 46, f 47, f 48, f 49, f 50, f 51, f 52, f 53, f 54, f 55, f 56, f 57, f 58, f 59, f 60, f 61, f 62, f 63, f 64, f 65, f 66, f 67], defers := [] } := by
 obtain ⟨f, hf⟩ := sm_leaf k o c n N ob cb g4 g5 a hs hd r0 r1 r2 r11 r12
 exact ⟨rfl, p, g4, g5, f, L4, L5, H1, H4, H5, HB, hf⟩
theorem masks_own (k : List UInt8) (o : Option Addr) (c : Nat) (n : Int) (bs : List (List UInt8)) (ob : Option Addr) (cb : Nat) (A : Nat -> Addr) (w : World) (hK : RowIs w o (bytesV k) c) (hB : RbIs w ob bs cb) (hV : Cds w) (hE : Er.E10 w A) (hl : k.length <= 900000) (hbl : bs.length <= 10000) (hn1 : -9223372036854775808 <= n) (hn2 : n <= 9223372036854775807) :
    Calls Tryz.prog 73 #[.slice o k.length c, .int .i64 n, .slice ob bs.length cb] w fun e w' => ∃ x, e = .returned (.tuple #[x, errV A (Da.mbs n bs)]) /\ RbV (Da.mkR k n bs) x w' /\ Below w.heap.size w w' /\ (Da.mbs n bs = 0 -> ∃ g xs, x = .slice (some ⟨g, 0, none⟩) bs.length bs.length /\ w.heap.size <= g /\ Arr w' g 22 xs /\ Els w' (Da.mkL k n bs) xs /\ (∀ ad l c, Value.slice (some ad) l c ∈ xs -> ad.block ≠ g)) := by
 have hmf := @makes Tryz.prog
 obtain ⟨i0, hi0, hz0, hz1, hz2⟩ := info_parts info_rowB
 obtain ⟨i1, hi1, hy0, hy1, hy2⟩ := info_parts info_u8
 have HK := Lh hK
 have HBS := Lh hB
 have HV := Lh hV
 have HE := Lh hE
 obtain ⟨N, hN⟩ : ∃ N, bs.length = N := ⟨_, rfl⟩
 have HN := Lh hN
 rw [hN] at hbl ⊢
 clear hK hB hV hE hN
 go_enter Tryz.func73, Tryz.ntmps73
 go_wp2_with fail
 go_loopw [18] (fun i wr => SmA n bs w i wr) (fun i _ => N - (intOf i).toNat)
 case atStart => exact ⟨0, Nat.zero_le _, rfl, by simp, fun h => by omega, Below.refl _ _⟩
 case round =>
  obtain ⟨p, hp, rfl, hm, hr, hb⟩ := hrel
  rw [HN.out] at hp
  by_cases hlt : p < N
  ·obtain ⟨bb, off, q, cq, rfl, _, hc, hrow⟩ := (HBS.out.later hb).cell p (by rw [HN.out]; exact hlt)
   have hwr : IntKind.i64.wrap (n + (p : Int)) = n + (p : Int) := by
    rw [IntKind.wrap_i64]
    rcases Nat.eq_zero_or_pos p with h | h
    ·subst h; omega
    ·have := hr h; omega
   have FL := Lh (flt_any (n + p) (bi bs p) q cq A wr (HE.out.later hb))
   have HM := Lh hm
   have HR := Lh hr
   have HB := Lh hb
   obtain ⟨L, hL⟩ : ∃ L, (bi bs p).length = L := ⟨_, rfl⟩
   have HL := Lh hL
   rw [hL] at FL hc
   clear hm hr hb hrow hL
   go_wp2_with fail
   refine FL.out.mono ?_
   rintro e w1 ⟨rfl, hb1⟩
   by_cases h0 : Da.mb (bi bs p) (n + p) = 0
   ·rw [h0, errV_nil]
    have HB1 := Lh (Ks HB.out hb1)
    have hnn := neq_nil w1
    clear hb1 FL
    go_wp2_with fail
    refine ⟨⟨p + 1, by rw [HN.out]; omega, rfl, ?_, ?_, HB1.out⟩, by simp [intOf]; omega⟩
    ·rw [HM.out, Da.mbs_drop n bs p (by rw [HN.out]; exact hlt), if_pos h0]
    ·intro _
     obtain ⟨h1, h2⟩ := Da.mb_zero h0
     have := Da.rb_zero h2
     rcases Nat.eq_zero_or_pos p with h | h
     ·subst h; omega
     ·have := HR.out h; omega
   ·obtain ⟨a1, ha1⟩ := errV_succ A _ h0
    have HB1 := Lh (Ks HB.out hb1)
    have HME : Hid (Da.mbs n bs = Da.mb (bi bs p) (n + p)) := Lh (by rw [HM.out, Da.mbs_drop n bs p (by rw [HN.out]; exact hlt), if_neg h0])
    have HA1 := Lh ha1
    have H0 := Lh h0
    rw [ha1]
    clear hb1 FL ha1 h0
    go_wp2_with fail
    refine bodyPost_ret (results_tmp2 rfl _ _ _) rfl ?_
    refine ⟨.slice none 0 0, by rw [HME.out, HA1.out]; rfl, ?_, HB1.out, fun h => absurd (HME.out.symm.trans h) H0.out⟩
    unfold Da.mkR
    rw [HME.out, if_neg H0.out]
    exact ⟨none, 0, rfl, RbIs.empty _ _ (Nat.zero_le _) (fun _ => rfl)⟩
  ·obtain rfl : N = p := by omega
   have HM : Hid (Da.mbs n bs = 0) := Lh (by rw [hm, List.drop_of_length_le (by rw [HN.out]; exact Nat.le_refl _)]; rfl)
   have HR := Lh hr
   have HB := Lh hb
   clear hm hr hb hlt hp
   go_wp2_with fail
   refine Code.wp_mono (Q := fun e b' v => e = .normal /\ ∃ (p g4 g5 : Nat) (f : Nat -> Value), w.heap.size <= g4 /\ w.heap.size <= g5 /\ Arr v p 175 (bytesV (Da.fil k)) /\ Arr v g4 22 (List.replicate N (.slice none 0 0)) /\ Arr v g5 170 [.pointer (some ⟨p, 0, none⟩)] /\ Below w.heap.size w v /\ b' = { tmps := #[.slice o k.length c, .int .i64 n, .slice ob N cb, f 3, f 4, f 5, f 6, f 7, f 8, f 9, f 10, .pointer (some ⟨g5, 0, none⟩), .slice (some ⟨g4, 0, none⟩) N N, f 13, f 14, f 15, f 16, f 17, f 18, f 19, f 20, f 21, f 22, f 23, f 24, f 25, f 26, f 27, f 28, f 29, f 30, f 31, f 32, f 33, f 34, f 35, f 36, f 37, f 38, f 39, f 40, f 41, f 42, f 43, f 44, f 45, f 46, f 47, f 48, f 49, f 50, f 51, f 52, f 53, f 54, f 55, f 56, f 57, f 58, f 59, f 60, f 61, f 62, f 63, f 64, f 65, f 66, f 67], defers := [] }) ?rest ?reg
   case reg =>
    refine wp_region_any (by kernel_rfl) ?_
    obtain ⟨x0, hx0⟩ : ∃ y, wr.drew = y := ⟨_, rfl⟩
    have HB : Hid (Below w.heap.size w x0) := Lh (by rw [<- hx0]; exact HB.out.drew)
    change wpAny _ _ _ _ _ _ _ (World.drew _)
    rw [hx0]
    clear hx0
    refine wpAny_take (i := 0) (v := .slice o k.length c) rfl (by kernel_rfl) (by kernel_rfl) (by kernel_rfl) (fun _ _ _ h => by cases h.1) (Or.inl ⟨by rfl, fun w => by go_simp⟩) ?_
    refine wpAny_take (i := 2) (v := .slice ob N cb) rfl (by kernel_rfl) (by kernel_rfl) (by kernel_rfl) (fun _ _ _ h => by cases h.1) (Or.inl ⟨by rfl, fun w => by go_simp⟩) ?_
    refine wpAny_take (i := 3) (v := .int .i64 N) rfl (by kernel_rfl) (by kernel_rfl) (by kernel_rfl) (fun _ _ _ h => by cases h.1) (Or.inl ⟨by rfl, fun w => by go_simp⟩) ?_
    refine wpAny_ready (rs := [1, 4, 5]) (by kernel_rfl) (by simp) ?_
    refine AllReady.cons rfl (fun K hK => ?_) (AllReady.cons rfl (fun K hK => ?_) (AllReady.cons rfl (fun K hK => ?_) AllReady.nil))
    ·-- 1 after []
     go_simp
     refine (sof10_any k o c x0 (HK.out.later HB.out) (HV.out.later HB.out) hl).mono ?_
     rintro e x1 ⟨p, rfl, h1, hbn⟩
     refine hK _ _ ?_
     clear hK K
     have HB := Lh (Ks HB.out hbn)
     have H1 := Lh h1
     clear h1 hbn
     refine wpAny_ready (rs := [4, 5]) (by kernel_rfl) (by simp) ?_
     refine AllReady.cons rfl (fun K hK => ?_) (AllReady.cons rfl (fun K hK => ?_) AllReady.nil)
     ·-- 4 after [1]
      obtain ⟨x2, hrun, hown, hgrow⟩ := run_make_full (P := Tryz.prog) x1 w.heap.size 30 22 i0 (.slice none 0 0) 1 Tryz.underlying30 hi0 hz0 hz1 .i64 .i64 N (by rw [hz2]; omega) (by unfold maxLen; omega) HB.out.size
      have hbn : Below x1.heap.size x1 x2 := (Below.refl _ _).grown hgrow (Nat.le_refl _) (fun k h => by cases h)
      obtain ⟨g4, hg4⟩ : ∃ g4, x1.heap.size = g4 := ⟨_, rfl⟩
      rw [hg4] at hrun hown
      rw [made_rows] at hown
      have L4 : Hid (w.heap.size <= g4) := Lh (arr_of_own hown).2
      clear hgrow hg4
      have H1 := Lh (H1.out.later hbn H1.out.lt)
      have HB := Lh (Ks HB.out hbn)
      have H4 := Lh (arr_of_own hown).1
      clear hbn hown
      go_simp
      refine hK _ _ ?_
      clear hK K hrun
      refine wpAny_ready (rs := [5]) (by kernel_rfl) (by simp) ?_
      refine AllReady.cons rfl (fun K hK => ?_) AllReady.nil
      ·-- 5 after [1, 4]
       obtain ⟨x3, hn⟩ : ∃ y, x2.alloc (.cells #[.pointer none] 170) = y := ⟨_, rfl⟩
       have hbn : Below x2.heap.size x2 x3 := by rw [<- hn]; exact (Below.refl _ _).alloc (Nat.le_refl _) _
       obtain ⟨g5, hg5⟩ : ∃ g5, x2.heap.size = g5 := ⟨_, rfl⟩
       have L5 : Hid (w.heap.size <= g5) := Lh (by rw [<- hg5]; exact HB.out.size)
       have H5 : Hid (Arr x3 g5 170 [.pointer none]) := Lh (by rw [<- hn, <- hg5]; exact Arr.made _ _ _)
       have HN5 := Lh hn
       have HG5 := Lh hg5
       clear hn hg5
       have H1 := Lh (H1.out.later hbn H1.out.lt)
       have H4 := Lh (H4.out.later hbn H4.out.lt)
       have HB := Lh (Ks HB.out hbn)
       clear hbn
       go_simp
       rw [HN5.out, HG5.out]
       refine hK _ _ ?_
       clear hK K HN5 HG5
       refine wpAny_ready (rs := [6]) (by kernel_rfl) (by simp) ?_
       refine AllReady.cons rfl (fun K hK => ?_) AllReady.nil
       ·-- 6 after [1, 4, 5]
        rw [if_pos (by rfl)]
        refine wp_store_row 170 (.tmp 11) (.tmp 33) rfl g5 #[.pointer (some ⟨p, 0, none⟩)] rfl rfl 170 #[.pointer none] H5.out src_size rfl (src_one p) (hK _ _ ?_)
        clear hK K
        obtain ⟨x4, hn⟩ : ∃ y, x3.setRow g5 #[.pointer (some ⟨p, 0, none⟩)] = y := ⟨_, rfl⟩
        have H1 : Hid (Arr x4 p 175 (bytesV (Da.fil k))) := Lh (by rw [<- hn]; exact arr_setRow H1.out (arr_apart H1.out H5.out (by decide)) _)
        have H4 : Hid (Arr x4 g4 22 (List.replicate N (.slice none 0 0))) := Lh (by rw [<- hn]; exact arr_setRow H4.out (arr_apart H4.out H5.out (by decide)) _)
        have HB : Hid (Below w.heap.size w x4) := Lh (by rw [<- hn]; exact HB.out.trans (below_row L5.out))
        have H5 : Hid (Arr x4 g5 170 [.pointer (some ⟨p, 0, none⟩)]) := Lh (by rw [<- hn]; exact setRow_heap _ _ _ _ _ _ H5.out)
        rw [hn]
        clear hn
        refine wpAny_ready (rs := [7]) (by kernel_rfl) (by simp) ?_
        refine AllReady.cons rfl (fun K hK => ?_) AllReady.nil
        ·-- 7 after [1, 4, 5, 6]
         go_simp
         refine hK _ _ ?_
         clear hK K
         refine wpAny_done (by kernel_rfl) ?_ _
         exact sm_end k o c n N ob cb p g4 g5 _ w _ rfl rfl rfl rfl rfl rfl rfl L4.out L5.out H1.out H4.out H5.out HB.out
     ·-- 5 after [1]
      obtain ⟨x6, hn⟩ : ∃ y, x1.alloc (.cells #[.pointer none] 170) = y := ⟨_, rfl⟩
      have hbn : Below x1.heap.size x1 x6 := by rw [<- hn]; exact (Below.refl _ _).alloc (Nat.le_refl _) _
      obtain ⟨g5, hg5⟩ : ∃ g5, x1.heap.size = g5 := ⟨_, rfl⟩
      have L5 : Hid (w.heap.size <= g5) := Lh (by rw [<- hg5]; exact HB.out.size)
      have H5 : Hid (Arr x6 g5 170 [.pointer none]) := Lh (by rw [<- hn, <- hg5]; exact Arr.made _ _ _)
      have HN5 := Lh hn
      have HG5 := Lh hg5
      clear hn hg5
      have H1 := Lh (H1.out.later hbn H1.out.lt)
      have HB := Lh (Ks HB.out hbn)
      clear hbn
      go_simp
      rw [HN5.out, HG5.out]
      refine hK _ _ ?_
      clear hK K HN5 HG5
      refine wpAny_ready (rs := [4, 6]) (by kernel_rfl) (by simp) ?_
      refine AllReady.cons rfl (fun K hK => ?_) (AllReady.cons rfl (fun K hK => ?_) AllReady.nil)
      ·-- 4 after [1, 5]
       obtain ⟨x7, hrun, hown, hgrow⟩ := run_make_full (P := Tryz.prog) x6 w.heap.size 30 22 i0 (.slice none 0 0) 1 Tryz.underlying30 hi0 hz0 hz1 .i64 .i64 N (by rw [hz2]; omega) (by unfold maxLen; omega) HB.out.size
       have hbn : Below x6.heap.size x6 x7 := (Below.refl _ _).grown hgrow (Nat.le_refl _) (fun k h => by cases h)
       obtain ⟨g4, hg4⟩ : ∃ g4, x6.heap.size = g4 := ⟨_, rfl⟩
       rw [hg4] at hrun hown
       rw [made_rows] at hown
       have L4 : Hid (w.heap.size <= g4) := Lh (arr_of_own hown).2
       clear hgrow hg4
       have H1 := Lh (H1.out.later hbn H1.out.lt)
       have H5 := Lh (H5.out.later hbn H5.out.lt)
       have HB := Lh (Ks HB.out hbn)
       have H4 := Lh (arr_of_own hown).1
       clear hbn hown
       go_simp
       refine hK _ _ ?_
       clear hK K hrun
       refine wpAny_ready (rs := [6]) (by kernel_rfl) (by simp) ?_
       refine AllReady.cons rfl (fun K hK => ?_) AllReady.nil
       ·-- 6 after [1, 4, 5]
        rw [if_pos (by rfl)]
        refine wp_store_row 170 (.tmp 11) (.tmp 33) rfl g5 #[.pointer (some ⟨p, 0, none⟩)] rfl rfl 170 #[.pointer none] H5.out src_size rfl (src_one p) (hK _ _ ?_)
        clear hK K
        obtain ⟨x8, hn⟩ : ∃ y, x7.setRow g5 #[.pointer (some ⟨p, 0, none⟩)] = y := ⟨_, rfl⟩
        have H1 : Hid (Arr x8 p 175 (bytesV (Da.fil k))) := Lh (by rw [<- hn]; exact arr_setRow H1.out (arr_apart H1.out H5.out (by decide)) _)
        have H4 : Hid (Arr x8 g4 22 (List.replicate N (.slice none 0 0))) := Lh (by rw [<- hn]; exact arr_setRow H4.out (arr_apart H4.out H5.out (by decide)) _)
        have HB : Hid (Below w.heap.size w x8) := Lh (by rw [<- hn]; exact HB.out.trans (below_row L5.out))
        have H5 : Hid (Arr x8 g5 170 [.pointer (some ⟨p, 0, none⟩)]) := Lh (by rw [<- hn]; exact setRow_heap _ _ _ _ _ _ H5.out)
        rw [hn]
        clear hn
        refine wpAny_ready (rs := [7]) (by kernel_rfl) (by simp) ?_
        refine AllReady.cons rfl (fun K hK => ?_) AllReady.nil
        ·-- 7 after [1, 4, 5, 6]
         go_simp
         refine hK _ _ ?_
         clear hK K
         refine wpAny_done (by kernel_rfl) ?_ _
         exact sm_end k o c n N ob cb p g4 g5 _ w _ rfl rfl rfl rfl rfl rfl rfl L4.out L5.out H1.out H4.out H5.out HB.out
      ·-- 6 after [1, 5]
       rw [if_pos (by rfl)]
       refine wp_store_row 170 (.tmp 11) (.tmp 33) rfl g5 #[.pointer (some ⟨p, 0, none⟩)] rfl rfl 170 #[.pointer none] H5.out src_size rfl (src_one p) (hK _ _ ?_)
       clear hK K
       obtain ⟨x10, hn⟩ : ∃ y, x6.setRow g5 #[.pointer (some ⟨p, 0, none⟩)] = y := ⟨_, rfl⟩
       have H1 : Hid (Arr x10 p 175 (bytesV (Da.fil k))) := Lh (by rw [<- hn]; exact arr_setRow H1.out (arr_apart H1.out H5.out (by decide)) _)
       have HB : Hid (Below w.heap.size w x10) := Lh (by rw [<- hn]; exact HB.out.trans (below_row L5.out))
       have H5 : Hid (Arr x10 g5 170 [.pointer (some ⟨p, 0, none⟩)]) := Lh (by rw [<- hn]; exact setRow_heap _ _ _ _ _ _ H5.out)
       rw [hn]
       clear hn
       refine wpAny_ready (rs := [4]) (by kernel_rfl) (by simp) ?_
       refine AllReady.cons rfl (fun K hK => ?_) AllReady.nil
       ·-- 4 after [1, 5, 6]
        obtain ⟨x11, hrun, hown, hgrow⟩ := run_make_full (P := Tryz.prog) x10 w.heap.size 30 22 i0 (.slice none 0 0) 1 Tryz.underlying30 hi0 hz0 hz1 .i64 .i64 N (by rw [hz2]; omega) (by unfold maxLen; omega) HB.out.size
        have hbn : Below x10.heap.size x10 x11 := (Below.refl _ _).grown hgrow (Nat.le_refl _) (fun k h => by cases h)
        obtain ⟨g4, hg4⟩ : ∃ g4, x10.heap.size = g4 := ⟨_, rfl⟩
        rw [hg4] at hrun hown
        rw [made_rows] at hown
        have L4 : Hid (w.heap.size <= g4) := Lh (arr_of_own hown).2
        clear hgrow hg4
        have H1 := Lh (H1.out.later hbn H1.out.lt)
        have H5 := Lh (H5.out.later hbn H5.out.lt)
        have HB := Lh (Ks HB.out hbn)
        have H4 := Lh (arr_of_own hown).1
        clear hbn hown
        go_simp
        refine hK _ _ ?_
        clear hK K hrun
        refine wpAny_ready (rs := [7]) (by kernel_rfl) (by simp) ?_
        refine AllReady.cons rfl (fun K hK => ?_) AllReady.nil
        ·-- 7 after [1, 4, 5, 6]
         go_simp
         refine hK _ _ ?_
         clear hK K
         refine wpAny_done (by kernel_rfl) ?_ _
         exact sm_end k o c n N ob cb p g4 g5 _ w _ rfl rfl rfl rfl rfl rfl rfl L4.out L5.out H1.out H4.out H5.out HB.out
    ·-- 4 after []
     obtain ⟨x13, hrun, hown, hgrow⟩ := run_make_full (P := Tryz.prog) x0 w.heap.size 30 22 i0 (.slice none 0 0) 1 Tryz.underlying30 hi0 hz0 hz1 .i64 .i64 N (by rw [hz2]; omega) (by unfold maxLen; omega) HB.out.size
     have hbn : Below x0.heap.size x0 x13 := (Below.refl _ _).grown hgrow (Nat.le_refl _) (fun k h => by cases h)
     obtain ⟨g4, hg4⟩ : ∃ g4, x0.heap.size = g4 := ⟨_, rfl⟩
     rw [hg4] at hrun hown
     rw [made_rows] at hown
     have L4 : Hid (w.heap.size <= g4) := Lh (arr_of_own hown).2
     clear hgrow hg4
     have HB := Lh (Ks HB.out hbn)
     have H4 := Lh (arr_of_own hown).1
     clear hbn hown
     go_simp
     refine hK _ _ ?_
     clear hK K hrun
     refine wpAny_ready (rs := [1, 5]) (by kernel_rfl) (by simp) ?_
     refine AllReady.cons rfl (fun K hK => ?_) (AllReady.cons rfl (fun K hK => ?_) AllReady.nil)
     ·-- 1 after [4]
      go_simp
      refine (sof10_any k o c x13 (HK.out.later HB.out) (HV.out.later HB.out) hl).mono ?_
      rintro e x14 ⟨p, rfl, h1, hbn⟩
      refine hK _ _ ?_
      clear hK K
      have H4 := Lh (H4.out.later hbn H4.out.lt)
      have HB := Lh (Ks HB.out hbn)
      have H1 := Lh h1
      clear h1 hbn
      refine wpAny_ready (rs := [5]) (by kernel_rfl) (by simp) ?_
      refine AllReady.cons rfl (fun K hK => ?_) AllReady.nil
      ·-- 5 after [1, 4]
       obtain ⟨x15, hn⟩ : ∃ y, x14.alloc (.cells #[.pointer none] 170) = y := ⟨_, rfl⟩
       have hbn : Below x14.heap.size x14 x15 := by rw [<- hn]; exact (Below.refl _ _).alloc (Nat.le_refl _) _
       obtain ⟨g5, hg5⟩ : ∃ g5, x14.heap.size = g5 := ⟨_, rfl⟩
       have L5 : Hid (w.heap.size <= g5) := Lh (by rw [<- hg5]; exact HB.out.size)
       have H5 : Hid (Arr x15 g5 170 [.pointer none]) := Lh (by rw [<- hn, <- hg5]; exact Arr.made _ _ _)
       have HN5 := Lh hn
       have HG5 := Lh hg5
       clear hn hg5
       have H1 := Lh (H1.out.later hbn H1.out.lt)
       have H4 := Lh (H4.out.later hbn H4.out.lt)
       have HB := Lh (Ks HB.out hbn)
       clear hbn
       go_simp
       rw [HN5.out, HG5.out]
       refine hK _ _ ?_
       clear hK K HN5 HG5
       refine wpAny_ready (rs := [6]) (by kernel_rfl) (by simp) ?_
       refine AllReady.cons rfl (fun K hK => ?_) AllReady.nil
       ·-- 6 after [1, 4, 5]
        rw [if_pos (by rfl)]
        refine wp_store_row 170 (.tmp 11) (.tmp 33) rfl g5 #[.pointer (some ⟨p, 0, none⟩)] rfl rfl 170 #[.pointer none] H5.out src_size rfl (src_one p) (hK _ _ ?_)
        clear hK K
        obtain ⟨x16, hn⟩ : ∃ y, x15.setRow g5 #[.pointer (some ⟨p, 0, none⟩)] = y := ⟨_, rfl⟩
        have H1 : Hid (Arr x16 p 175 (bytesV (Da.fil k))) := Lh (by rw [<- hn]; exact arr_setRow H1.out (arr_apart H1.out H5.out (by decide)) _)
        have H4 : Hid (Arr x16 g4 22 (List.replicate N (.slice none 0 0))) := Lh (by rw [<- hn]; exact arr_setRow H4.out (arr_apart H4.out H5.out (by decide)) _)
        have HB : Hid (Below w.heap.size w x16) := Lh (by rw [<- hn]; exact HB.out.trans (below_row L5.out))
        have H5 : Hid (Arr x16 g5 170 [.pointer (some ⟨p, 0, none⟩)]) := Lh (by rw [<- hn]; exact setRow_heap _ _ _ _ _ _ H5.out)
        rw [hn]
        clear hn
        refine wpAny_ready (rs := [7]) (by kernel_rfl) (by simp) ?_
        refine AllReady.cons rfl (fun K hK => ?_) AllReady.nil
        ·-- 7 after [1, 4, 5, 6]
         go_simp
         refine hK _ _ ?_
         clear hK K
         refine wpAny_done (by kernel_rfl) ?_ _
         exact sm_end k o c n N ob cb p g4 g5 _ w _ rfl rfl rfl rfl rfl rfl rfl L4.out L5.out H1.out H4.out H5.out HB.out
     ·-- 5 after [4]
      obtain ⟨x18, hn⟩ : ∃ y, x13.alloc (.cells #[.pointer none] 170) = y := ⟨_, rfl⟩
      have hbn : Below x13.heap.size x13 x18 := by rw [<- hn]; exact (Below.refl _ _).alloc (Nat.le_refl _) _
      obtain ⟨g5, hg5⟩ : ∃ g5, x13.heap.size = g5 := ⟨_, rfl⟩
      have L5 : Hid (w.heap.size <= g5) := Lh (by rw [<- hg5]; exact HB.out.size)
      have H5 : Hid (Arr x18 g5 170 [.pointer none]) := Lh (by rw [<- hn, <- hg5]; exact Arr.made _ _ _)
      have HN5 := Lh hn
      have HG5 := Lh hg5
      clear hn hg5
      have H4 := Lh (H4.out.later hbn H4.out.lt)
      have HB := Lh (Ks HB.out hbn)
      clear hbn
      go_simp
      rw [HN5.out, HG5.out]
      refine hK _ _ ?_
      clear hK K HN5 HG5
      refine wpAny_ready (rs := [1]) (by kernel_rfl) (by simp) ?_
      refine AllReady.cons rfl (fun K hK => ?_) AllReady.nil
      ·-- 1 after [4, 5]
       go_simp
       refine (sof10_any k o c x18 (HK.out.later HB.out) (HV.out.later HB.out) hl).mono ?_
       rintro e x19 ⟨p, rfl, h1, hbn⟩
       refine hK _ _ ?_
       clear hK K
       have H4 := Lh (H4.out.later hbn H4.out.lt)
       have H5 := Lh (H5.out.later hbn H5.out.lt)
       have HB := Lh (Ks HB.out hbn)
       have H1 := Lh h1
       clear h1 hbn
       refine wpAny_ready (rs := [6]) (by kernel_rfl) (by simp) ?_
       refine AllReady.cons rfl (fun K hK => ?_) AllReady.nil
       ·-- 6 after [1, 4, 5]
        rw [if_pos (by rfl)]
        refine wp_store_row 170 (.tmp 11) (.tmp 33) rfl g5 #[.pointer (some ⟨p, 0, none⟩)] rfl rfl 170 #[.pointer none] H5.out src_size rfl (src_one p) (hK _ _ ?_)
        clear hK K
        obtain ⟨x20, hn⟩ : ∃ y, x19.setRow g5 #[.pointer (some ⟨p, 0, none⟩)] = y := ⟨_, rfl⟩
        have H1 : Hid (Arr x20 p 175 (bytesV (Da.fil k))) := Lh (by rw [<- hn]; exact arr_setRow H1.out (arr_apart H1.out H5.out (by decide)) _)
        have H4 : Hid (Arr x20 g4 22 (List.replicate N (.slice none 0 0))) := Lh (by rw [<- hn]; exact arr_setRow H4.out (arr_apart H4.out H5.out (by decide)) _)
        have HB : Hid (Below w.heap.size w x20) := Lh (by rw [<- hn]; exact HB.out.trans (below_row L5.out))
        have H5 : Hid (Arr x20 g5 170 [.pointer (some ⟨p, 0, none⟩)]) := Lh (by rw [<- hn]; exact setRow_heap _ _ _ _ _ _ H5.out)
        rw [hn]
        clear hn
        refine wpAny_ready (rs := [7]) (by kernel_rfl) (by simp) ?_
        refine AllReady.cons rfl (fun K hK => ?_) AllReady.nil
        ·-- 7 after [1, 4, 5, 6]
         go_simp
         refine hK _ _ ?_
         clear hK K
         refine wpAny_done (by kernel_rfl) ?_ _
         exact sm_end k o c n N ob cb p g4 g5 _ w _ rfl rfl rfl rfl rfl rfl rfl L4.out L5.out H1.out H4.out H5.out HB.out
    ·-- 5 after []
     obtain ⟨x22, hn⟩ : ∃ y, x0.alloc (.cells #[.pointer none] 170) = y := ⟨_, rfl⟩
     have hbn : Below x0.heap.size x0 x22 := by rw [<- hn]; exact (Below.refl _ _).alloc (Nat.le_refl _) _
     obtain ⟨g5, hg5⟩ : ∃ g5, x0.heap.size = g5 := ⟨_, rfl⟩
     have L5 : Hid (w.heap.size <= g5) := Lh (by rw [<- hg5]; exact HB.out.size)
     have H5 : Hid (Arr x22 g5 170 [.pointer none]) := Lh (by rw [<- hn, <- hg5]; exact Arr.made _ _ _)
     have HN5 := Lh hn
     have HG5 := Lh hg5
     clear hn hg5
     have HB := Lh (Ks HB.out hbn)
     clear hbn
     go_simp
     rw [HN5.out, HG5.out]
     refine hK _ _ ?_
     clear hK K HN5 HG5
     refine wpAny_ready (rs := [1, 4]) (by kernel_rfl) (by simp) ?_
     refine AllReady.cons rfl (fun K hK => ?_) (AllReady.cons rfl (fun K hK => ?_) AllReady.nil)
     ·-- 1 after [5]
      go_simp
      refine (sof10_any k o c x22 (HK.out.later HB.out) (HV.out.later HB.out) hl).mono ?_
      rintro e x23 ⟨p, rfl, h1, hbn⟩
      refine hK _ _ ?_
      clear hK K
      have H5 := Lh (H5.out.later hbn H5.out.lt)
      have HB := Lh (Ks HB.out hbn)
      have H1 := Lh h1
      clear h1 hbn
      refine wpAny_ready (rs := [4, 6]) (by kernel_rfl) (by simp) ?_
      refine AllReady.cons rfl (fun K hK => ?_) (AllReady.cons rfl (fun K hK => ?_) AllReady.nil)
      ·-- 4 after [1, 5]
       obtain ⟨x24, hrun, hown, hgrow⟩ := run_make_full (P := Tryz.prog) x23 w.heap.size 30 22 i0 (.slice none 0 0) 1 Tryz.underlying30 hi0 hz0 hz1 .i64 .i64 N (by rw [hz2]; omega) (by unfold maxLen; omega) HB.out.size
       have hbn : Below x23.heap.size x23 x24 := (Below.refl _ _).grown hgrow (Nat.le_refl _) (fun k h => by cases h)
       obtain ⟨g4, hg4⟩ : ∃ g4, x23.heap.size = g4 := ⟨_, rfl⟩
       rw [hg4] at hrun hown
       rw [made_rows] at hown
       have L4 : Hid (w.heap.size <= g4) := Lh (arr_of_own hown).2
       clear hgrow hg4
       have H1 := Lh (H1.out.later hbn H1.out.lt)
       have H5 := Lh (H5.out.later hbn H5.out.lt)
       have HB := Lh (Ks HB.out hbn)
       have H4 := Lh (arr_of_own hown).1
       clear hbn hown
       go_simp
       refine hK _ _ ?_
       clear hK K hrun
       refine wpAny_ready (rs := [6]) (by kernel_rfl) (by simp) ?_
       refine AllReady.cons rfl (fun K hK => ?_) AllReady.nil
       ·-- 6 after [1, 4, 5]
        rw [if_pos (by rfl)]
        refine wp_store_row 170 (.tmp 11) (.tmp 33) rfl g5 #[.pointer (some ⟨p, 0, none⟩)] rfl rfl 170 #[.pointer none] H5.out src_size rfl (src_one p) (hK _ _ ?_)
        clear hK K
        obtain ⟨x25, hn⟩ : ∃ y, x24.setRow g5 #[.pointer (some ⟨p, 0, none⟩)] = y := ⟨_, rfl⟩
        have H1 : Hid (Arr x25 p 175 (bytesV (Da.fil k))) := Lh (by rw [<- hn]; exact arr_setRow H1.out (arr_apart H1.out H5.out (by decide)) _)
        have H4 : Hid (Arr x25 g4 22 (List.replicate N (.slice none 0 0))) := Lh (by rw [<- hn]; exact arr_setRow H4.out (arr_apart H4.out H5.out (by decide)) _)
        have HB : Hid (Below w.heap.size w x25) := Lh (by rw [<- hn]; exact HB.out.trans (below_row L5.out))
        have H5 : Hid (Arr x25 g5 170 [.pointer (some ⟨p, 0, none⟩)]) := Lh (by rw [<- hn]; exact setRow_heap _ _ _ _ _ _ H5.out)
        rw [hn]
        clear hn
        refine wpAny_ready (rs := [7]) (by kernel_rfl) (by simp) ?_
        refine AllReady.cons rfl (fun K hK => ?_) AllReady.nil
        ·-- 7 after [1, 4, 5, 6]
         go_simp
         refine hK _ _ ?_
         clear hK K
         refine wpAny_done (by kernel_rfl) ?_ _
         exact sm_end k o c n N ob cb p g4 g5 _ w _ rfl rfl rfl rfl rfl rfl rfl L4.out L5.out H1.out H4.out H5.out HB.out
      ·-- 6 after [1, 5]
       rw [if_pos (by rfl)]
       refine wp_store_row 170 (.tmp 11) (.tmp 33) rfl g5 #[.pointer (some ⟨p, 0, none⟩)] rfl rfl 170 #[.pointer none] H5.out src_size rfl (src_one p) (hK _ _ ?_)
       clear hK K
       obtain ⟨x27, hn⟩ : ∃ y, x23.setRow g5 #[.pointer (some ⟨p, 0, none⟩)] = y := ⟨_, rfl⟩
       have H1 : Hid (Arr x27 p 175 (bytesV (Da.fil k))) := Lh (by rw [<- hn]; exact arr_setRow H1.out (arr_apart H1.out H5.out (by decide)) _)
       have HB : Hid (Below w.heap.size w x27) := Lh (by rw [<- hn]; exact HB.out.trans (below_row L5.out))
       have H5 : Hid (Arr x27 g5 170 [.pointer (some ⟨p, 0, none⟩)]) := Lh (by rw [<- hn]; exact setRow_heap _ _ _ _ _ _ H5.out)
       rw [hn]
       clear hn
       refine wpAny_ready (rs := [4]) (by kernel_rfl) (by simp) ?_
       refine AllReady.cons rfl (fun K hK => ?_) AllReady.nil
       ·-- 4 after [1, 5, 6]
        obtain ⟨x28, hrun, hown, hgrow⟩ := run_make_full (P := Tryz.prog) x27 w.heap.size 30 22 i0 (.slice none 0 0) 1 Tryz.underlying30 hi0 hz0 hz1 .i64 .i64 N (by rw [hz2]; omega) (by unfold maxLen; omega) HB.out.size
        have hbn : Below x27.heap.size x27 x28 := (Below.refl _ _).grown hgrow (Nat.le_refl _) (fun k h => by cases h)
        obtain ⟨g4, hg4⟩ : ∃ g4, x27.heap.size = g4 := ⟨_, rfl⟩
        rw [hg4] at hrun hown
        rw [made_rows] at hown
        have L4 : Hid (w.heap.size <= g4) := Lh (arr_of_own hown).2
        clear hgrow hg4
        have H1 := Lh (H1.out.later hbn H1.out.lt)
        have H5 := Lh (H5.out.later hbn H5.out.lt)
        have HB := Lh (Ks HB.out hbn)
        have H4 := Lh (arr_of_own hown).1
        clear hbn hown
        go_simp
        refine hK _ _ ?_
        clear hK K hrun
        refine wpAny_ready (rs := [7]) (by kernel_rfl) (by simp) ?_
        refine AllReady.cons rfl (fun K hK => ?_) AllReady.nil
        ·-- 7 after [1, 4, 5, 6]
         go_simp
         refine hK _ _ ?_
         clear hK K
         refine wpAny_done (by kernel_rfl) ?_ _
         exact sm_end k o c n N ob cb p g4 g5 _ w _ rfl rfl rfl rfl rfl rfl rfl L4.out L5.out H1.out H4.out H5.out HB.out
     ·-- 4 after [5]
      obtain ⟨x30, hrun, hown, hgrow⟩ := run_make_full (P := Tryz.prog) x22 w.heap.size 30 22 i0 (.slice none 0 0) 1 Tryz.underlying30 hi0 hz0 hz1 .i64 .i64 N (by rw [hz2]; omega) (by unfold maxLen; omega) HB.out.size
      have hbn : Below x22.heap.size x22 x30 := (Below.refl _ _).grown hgrow (Nat.le_refl _) (fun k h => by cases h)
      obtain ⟨g4, hg4⟩ : ∃ g4, x22.heap.size = g4 := ⟨_, rfl⟩
      rw [hg4] at hrun hown
      rw [made_rows] at hown
      have L4 : Hid (w.heap.size <= g4) := Lh (arr_of_own hown).2
      clear hgrow hg4
      have H5 := Lh (H5.out.later hbn H5.out.lt)
      have HB := Lh (Ks HB.out hbn)
      have H4 := Lh (arr_of_own hown).1
      clear hbn hown
      go_simp
      refine hK _ _ ?_
      clear hK K hrun
      refine wpAny_ready (rs := [1]) (by kernel_rfl) (by simp) ?_
      refine AllReady.cons rfl (fun K hK => ?_) AllReady.nil
      ·-- 1 after [4, 5]
       go_simp
       refine (sof10_any k o c x30 (HK.out.later HB.out) (HV.out.later HB.out) hl).mono ?_
       rintro e x31 ⟨p, rfl, h1, hbn⟩
       refine hK _ _ ?_
       clear hK K
       have H4 := Lh (H4.out.later hbn H4.out.lt)
       have H5 := Lh (H5.out.later hbn H5.out.lt)
       have HB := Lh (Ks HB.out hbn)
       have H1 := Lh h1
       clear h1 hbn
       refine wpAny_ready (rs := [6]) (by kernel_rfl) (by simp) ?_
       refine AllReady.cons rfl (fun K hK => ?_) AllReady.nil
       ·-- 6 after [1, 4, 5]
        rw [if_pos (by rfl)]
        refine wp_store_row 170 (.tmp 11) (.tmp 33) rfl g5 #[.pointer (some ⟨p, 0, none⟩)] rfl rfl 170 #[.pointer none] H5.out src_size rfl (src_one p) (hK _ _ ?_)
        clear hK K
        obtain ⟨x32, hn⟩ : ∃ y, x31.setRow g5 #[.pointer (some ⟨p, 0, none⟩)] = y := ⟨_, rfl⟩
        have H1 : Hid (Arr x32 p 175 (bytesV (Da.fil k))) := Lh (by rw [<- hn]; exact arr_setRow H1.out (arr_apart H1.out H5.out (by decide)) _)
        have H4 : Hid (Arr x32 g4 22 (List.replicate N (.slice none 0 0))) := Lh (by rw [<- hn]; exact arr_setRow H4.out (arr_apart H4.out H5.out (by decide)) _)
        have HB : Hid (Below w.heap.size w x32) := Lh (by rw [<- hn]; exact HB.out.trans (below_row L5.out))
        have H5 : Hid (Arr x32 g5 170 [.pointer (some ⟨p, 0, none⟩)]) := Lh (by rw [<- hn]; exact setRow_heap _ _ _ _ _ _ H5.out)
        rw [hn]
        clear hn
        refine wpAny_ready (rs := [7]) (by kernel_rfl) (by simp) ?_
        refine AllReady.cons rfl (fun K hK => ?_) AllReady.nil
        ·-- 7 after [1, 4, 5, 6]
         go_simp
         refine hK _ _ ?_
         clear hK K
         refine wpAny_done (by kernel_rfl) ?_ _
         exact sm_end k o c n N ob cb p g4 g5 _ w _ rfl rfl rfl rfl rfl rfl rfl L4.out L5.out H1.out H4.out H5.out HB.out
   case rest =>
    rintro e a W ⟨rfl, p, g4, g5, f, h4, h5, hk, hm, hs, hb, rfl⟩
    rename_i K0 hK0
    show K0 _ _
    refine hK0 _ _ ?_
    clear hK0 K0
    have H4 := Lh h4
    have H5 := Lh h5
    have HKY := Lh hk
    have HMA := Lh hm
    have HSO := Lh hs
    have HB := Lh hb
    have hw8 : IntKind.i64.wrap ((N : Int) * 8) = ((N * 8 : Nat) : Int) := by rw [IntKind.wrap_i64]; omega
    clear h4 h5 hk hm hs hb
    go_wp2_with (at_make; refine wpList_make_full _ rfl _ _ 22 rfl w.heap.size 5 i1 (.int .u8 0) 1 Tryz.underlying22 hi1 hy0 hy1 .i64 .i64 _ _ (N * 8) rfl rfl (by omega) (by omega) (by rw [hy2]; omega) (by unfold maxLen; omega) HB.out.size ?_)
    intro W1 hown hgrow
    have hb1 : Below W.heap.size W W1 := (Below.refl _ _).grown hgrow (Nat.le_refl _) (fun k h => by cases h)
    obtain ⟨gR, hgR⟩ : ∃ gR, W.heap.size = gR := ⟨_, rfl⟩
    rw [hgR] at hown
    have hA1 := (arr_of_own hown).1
    have hle := (arr_of_own hown).2
    rw [made_bytes] at hA1
    have HX0 : Hid (SmB k n bs N p g4 g5 gR w (.slice (some ⟨gR, 0, none⟩) (N * 8) (N * 8)) (.int .i64 0) W1) := Lh ⟨0, _, List.replicate (N * 8) 0, Nat.zero_le _, rfl, by rw [Nat.sub_zero, Nat.mul_comm], fun _ => rfl, by simp; omega, fun q h => by omega, hA1, by rw [hdrs_zero]; exact HMA.out.later hb1 HMA.out.lt, HSO.out.later hb1 HSO.out.lt, HKY.out.later hb1 HKY.out.lt, Ks HB.out hb1⟩
    have HGR := Lh hgR
    have HLE := Lh hle
    clear hb1 hgR hown hgrow hA1 hle
    go_wp2_with (first | rw [HGR.out])
    go_loopw [13, 43] (fun r i wr => SmB k n bs N p g4 g5 gR w r i wr) (fun _ i _ => N - (intOf i).toNat)
    case atStart => exact HX0.out
    case round =>
     obtain ⟨j, ro, Z, hj, rfl, rfl, hro, hZ, hq, hAR, hA4, hA5, hAk, hb⟩ := hrel
     by_cases hlt : j < N
     ·obtain rfl := hro hlt
      have hmb := Da.mbs_all n bs HM.out j (by rw [HN.out]; exact hlt)
      obtain ⟨hb8, hrb⟩ := Da.mb_zero hmb
      have hrg := Da.rb_zero hrb
      have hwr : IntKind.i64.wrap (n + (j : Int)) = n + (j : Int) := by rw [IntKind.wrap_i64]; omega
      obtain ⟨bb, off, q, cq, rfl, hblt, hc, hrow⟩ := HBS.out.cell j (by rw [HN.out]; exact hlt)
      have hc := hb.cell hblt |>.trans hc
      have hnq := hrow.apart HLE.out (by simp [hb8])
      rw [hb8] at hc
      have h4c : wr.cell? ⟨g4, j, none⟩ = some (.slice none 0 0) := by rw [hA4.cell, hdrs_at _ _ _ _ hlt, if_neg (by omega)]
      have h4f := hA4.frozen j
      have HZ := Lh hZ
      have HQ := Lh hq
      have HAR := Lh hAR
      have HA4 := Lh hA4
      have HA5 := Lh hA5
      have HAK := Lh hAk
      have HBW := Lh hb
      have HROW := Lh hrow
      have HNQ := Lh hnq
      have HRG := Lh hrg
      have HB8 := Lh hb8
      obtain ⟨L, hL⟩ : ∃ L, 8 * (N - j) = L := ⟨_, rfl⟩
      have hL8 : 8 <= L := by omega
      have HL := Lh hL
      rw [hL]
      clear hZ hq hAR hA4 hA5 hAk hb hrow hnq hro hmb hrb hrg hb8 HX0 hL
      have HNC := HNQ
      by_cases hL9 : L = 8
      case' pos =>
       subst hL9
       go_wp2_with fail
       go_region
       obtain ⟨room, hroom, HRM⟩ : ∃ r : Value, r = .slice (some ⟨gR, 8 * j, none⟩) 0 0 /\ Hid (∃ ro, r = .slice ro (8 * (N - (j + 1))) (8 * (N - (j + 1))) /\ (j + 1 < N -> ro = some ⟨gR, 8 * (j + 1), none⟩)) := ⟨_, rfl, Lh ⟨_, by have := HL.out; rw [show 8 * (N - (j + 1)) = 0 by omega], fun h => by have := HL.out; omega⟩⟩
       rw [<- hroom]
      case' neg =>
       go_wp2_with fail
       go_region
       obtain ⟨room, hroom, HRM⟩ : ∃ r : Value, r = .slice (some ⟨gR, 8 * j + 8, none⟩) (L - 8) (L - 8) /\ Hid (∃ ro, r = .slice ro (8 * (N - (j + 1))) (8 * (N - (j + 1))) /\ (j + 1 < N -> ro = some ⟨gR, 8 * (j + 1), none⟩)) := ⟨_, rfl, Lh ⟨some ⟨gR, 8 * j + 8, none⟩, by have := HL.out; rw [show 8 * (N - (j + 1)) = L - 8 by omega], fun h => by rw [Nat.mul_add]⟩⟩
       rw [<- hroom]
      all_goals
       clear hroom
       obtain ⟨W2, hW2⟩ : ∃ W2, (wr.setCell ⟨g4, j, none⟩ (.slice (some ⟨gR, 8 * j, none⟩) 8 8)).drew = W2 := ⟨_, rfl⟩
       have a4 : Arr W2 g4 22 (hdrs gR N (j + 1)) := by rw [<- hW2, <- hdrs_step]; exact (HA4.out.set j _).drew
       have aR : Arr W2 gR 5 (bytesV Z) := by rw [<- hW2]; exact (HAR.out.ne HA4.out (arr_apart HAR.out HA4.out (by decide)) j _).drew
       have a5 : Arr W2 g5 170 [.pointer (some ⟨p, 0, none⟩)] := by rw [<- hW2]; exact (HA5.out.ne HA4.out (arr_apart HA5.out HA4.out (by decide)) j _).drew
       have ak : Arr W2 p 175 (bytesV (Da.fil k)) := by rw [<- hW2]; exact (HAK.out.ne HA4.out (arr_apart HAK.out HA4.out (by decide)) j _).drew
       have hb2 : Below w.heap.size w W2 := by rw [<- hW2]; exact (HA4.out.below HBW.out H4.out j _).drew
       rw [hW2]
       have HB4 := Lh a4
       have HBR := Lh aR
       have HBS5 := Lh a5
       have HBK := Lh ak
       have HBB := Lh hb2
       clear hW2 a4 aR a5 ak hb2 h4c h4f
       go_wp2_with fail
       have hS0 : (W2.drew).cell? ⟨g4, j, none⟩ = some (.slice (some ⟨gR, 8 * j, none⟩) 8 8) /\ (W2.drew).rangeAt g5 0 [.pointer (some ⟨p, 0, none⟩)] := ⟨by show W2.cell? _ = _; rw [HB4.out.cell, hdrs_at _ _ _ _ hlt, if_pos (by omega)], (HBS5.out.drew).range 0 _ (fun i v h => by rw [Nat.zero_add]; exact h)⟩
       refine wp_region_held (S := fun v => v.cell? ⟨g4, j, none⟩ = some (.slice (some ⟨gR, 8 * j, none⟩) 8 8) /\ v.rangeAt g5 0 [.pointer (some ⟨p, 0, none⟩)]) (by kernel_rfl) ?_
       refine wpAnyH_take (i := 0) (v := .slice (some ⟨g4, 0, none⟩) N N) rfl (by kernel_rfl) (by kernel_rfl) (by kernel_rfl) (fun _ _ _ h => h) (Or.inl ⟨by rfl, fun v hS => by go_simp⟩) hS0 ?_
       refine wpAnyH_take (i := 1) (v := .int .i64 j) rfl (by kernel_rfl) (by kernel_rfl) (by kernel_rfl) (fun _ _ _ h => h) (Or.inl ⟨by rfl, fun v hS => by go_simp⟩) hS0 ?_
       refine wpAnyH_take (i := 4) (v := .slice q 8 cq) rfl (by kernel_rfl) (by kernel_rfl) (by kernel_rfl) (fun _ _ _ h => h) (Or.inl ⟨by rfl, fun v hS => by go_simp⟩) hS0 ?_
       refine wpAnyH_take (i := 6) (v := .int .i64 n) rfl (by kernel_rfl) (by kernel_rfl) (by kernel_rfl) (fun _ _ _ h => h) (Or.inl ⟨by rfl, fun v hS => by go_simp⟩) hS0 ?_
       refine wpAnyH_take (i := 7) (v := .int .i64 j) rfl (by kernel_rfl) (by kernel_rfl) (by kernel_rfl) (fun _ _ _ h => h) (Or.inl ⟨by rfl, fun v hS => by go_simp⟩) hS0 ?_
       refine wpAnyH_take (i := 8) (v := .int .i64 (n + j)) rfl (by kernel_rfl) (by kernel_rfl) (by kernel_rfl) (fun _ _ _ h => h) (Or.inl ⟨by rfl, fun v hS => by go_simp⟩) hS0 ?_
       refine wpAnyH_take (i := 2) (v := .pointer (some ⟨g4, j, none⟩)) rfl (by kernel_rfl) (by kernel_rfl) (by kernel_rfl) (fun _ _ _ h => h) (Or.inl ⟨by rfl, fun v hS => by go_simp⟩) hS0 ?_
       refine wpAnyH_take (i := 3) (v := .slice (some ⟨gR, 8 * j, none⟩) 8 8) rfl (by kernel_rfl) (by kernel_rfl) (by kernel_rfl) (fun _ _ _ h => h) (Or.inl ⟨by rfl, fun v hS => by have hc := hS.1; go_simp⟩) hS0 ?_
       refine wpAnyH_take (i := 5) (v := .agg #[.pointer (some ⟨p, 0, none⟩)]) rfl (by kernel_rfl) (by kernel_rfl) (by kernel_rfl) (fun _ _ _ h => h) (Or.inl ⟨by rfl, fun v hS => St.exec_load (x := .tmp 11) (ty := 170) rfl (by go_simp) [.pointer (some ⟨p, 0, none⟩)] _ hS.2 Tryz.underlying170 rfl src_size⟩) hS0 ?_
       have hbd : Below W2.heap.size W2 W2.drew := Kit.dn' W2 1
       refine wpAnyH_all (rs := [9]) (by kernel_rfl) (by simp) (fun i hi => ?_)
       obtain rfl : i = 9 := by simpa using hi
       refine Rg.op_fn (R := fun x v => ∃ g, x = .slice (some ⟨g, 0, none⟩) 8 8 /\ W2.drew.heap.size <= g /\ RowIs v (some ⟨g, 0, none⟩) (bytesV (Da.sb k (n + j))) 8 /\ Below W2.drew.heap.size W2.drew v) rfl rfl rfl (enters_of Tryz.func97 (by kernel_rfl) rfl) (args := #[.agg #[.pointer (some ⟨p, 0, none⟩)], .int .i64 (n + j)]) (by go_simp)
        ((sblk_any k (n + j) p W2.drew HBK.out.drew ((HV.out.later HBB.out).later hbd)).mono (fun e v' ⟨g, he, h1, h2, h3⟩ => ⟨_, he, g, rfl, h1, h2, h3⟩)) ?_
       rintro x W3 ⟨gB, rfl, hgB, hrB, hb3⟩
       have hb3 : Below W2.heap.size W2 W3 := Ks hbd hb3
       have hgB : W2.heap.size <= gB := hgB
       have a4 := HB4.out.later hb3 HB4.out.lt
       have aR := HBR.out.later hb3 HBR.out.lt
       have a5 := HBS5.out.later hb3 HBS5.out.lt
       have ak := HBK.out.later hb3 HBK.out.lt
       have hBB := HBB.out.trans (hb3.mono HBB.out.size)
       refine ⟨⟨by rw [a4.cell, hdrs_at _ _ _ _ hlt, if_pos (by omega)], a5.range 0 _ (fun i v h => by rw [Nat.zero_add]; exact h)⟩, ?_⟩
       refine wpAnyH_all (rs := [10]) (by kernel_rfl) (by simp) (fun i hi => ?_)
       obtain rfl : i = 10 := by simpa using hi
       have LY := lay10_any Z (bi bs j) (Da.sb k (n + j)) gR (8 * j) q (some ⟨gB, 0, none⟩) cq 8 W3 (by have := HZ.out; omega) (by have := HZ.out; omega) aR (HROW.out.later hBB) hrB HB8.out (Da.sb_length _ _) HNC.out (fun ad e => by cases e; have := HBR.out.lt; show gB ≠ gR; omega)
       refine Rg.op_fn (R := fun x v => Arr v gR 5 (bytesV (Da.putL Z (8 * j) (Da.mk8 k (n + j) (bi bs j)))) /\ W3.grownBy v (some gR)) rfl rfl rfl (enters_of Tryz.func118 (by kernel_rfl) rfl) (args := #[.slice (some ⟨gR, 8 * j, none⟩) 8 8, .slice q 8 cq, .slice (some ⟨gB, 0, none⟩) 8 8]) (by go_simp)
        (LY.mono (fun e v' ⟨he, h1, h2⟩ => ⟨_, he, h1, h2⟩)) ?_
       rintro x W4 ⟨cR, hg4⟩
       have c4 := a4.kept hg4 (fun e => arr_apart a4 aR (by decide) (Option.some.inj e))
       have c5 := a5.kept hg4 (fun e => arr_apart a5 aR (by decide) (Option.some.inj e))
       have ck := ak.kept hg4 (fun e => arr_apart ak aR (by decide) (Option.some.inj e))
       have hB4 := below_grown hBB hg4 HLE.out hBB.size
       refine ⟨⟨by rw [c4.cell, hdrs_at _ _ _ _ hlt, if_pos (by omega)], c5.range 0 _ (fun i v h => by rw [Nat.zero_add]; exact h)⟩, ?_⟩
       refine wpAnyH_done (by kernel_rfl) ?_ _
       obtain ⟨ro, hro, hr2⟩ := HRM.out
       have hm8 := Da.mk8_length (k := k) (n := n + j) HB8.out
       have HX1 : Hid (SmB k n bs N p g4 g5 gR w room (.int .i64 ((j + 1 : Nat) : Int)) W4) := Lh ⟨j + 1, ro, _, by omega, rfl, hro, hr2, by rw [Da.putL_length _ _ _ (by rw [hm8]; have := HZ.out; omega)]; exact HZ.out, fun t ht => by
        by_cases e : t = j
        ·subst e
         have := Da.putL_at Z (8 * t) (Da.mk8 k (n + t) (bi bs t)) (by rw [hm8]; have := HZ.out; omega)
         rwa [hm8] at this
        ·rw [Da.putL_ahead _ _ _ _ _ (by rw [hm8]; have := HZ.out; omega) (by omega)]
         exact HQ.out t (by omega), cR, c4, c5, ck, hB4⟩
       clear c4 c5 ck hB4 a4 a5 ak aR hBB hb3 hgB hrB hg4 cR LY hm8 hro hr2 hS0 hbd
       go_wp2_with fail
       exact ⟨HX1.out, by simp [intOf]; omega⟩
     ·obtain rfl : N = j := by omega
      have HBW := Lh hb
      have hml : (Da.mkL k n bs).length = N := by rw [Da.mkL_length, HN.out]
      have hEL : Els wr (Da.mkL k n bs) (hdrs gR N N) := by
       refine ⟨by rw [hdrs_length, hml], fun i x hx => ?_⟩
       have hi : i < N := by have := (List.getElem?_eq_some_iff.1 hx).1; rwa [hdrs_length] at this
       rw [hdrs_at _ _ _ _ hi, if_pos hi] at hx
       obtain rfl := Option.some.inj hx
       obtain ⟨hb8, _⟩ := Da.mb_zero (Da.mbs_all n bs HM.out i (by rw [HN.out]; exact hi))
       rw [Da.mkL_at k n bs i (by rw [HN.out]; exact hi)]
       have hm8 := Da.mk8_length (k := k) (n := n + i) hb8
       refine ⟨_, 8, by rw [hm8], ?_⟩
       have hr := (hAR.row (by unfold maxLen; omega)).part (8 * i) 8 (by rw [bytesV_length]; omega) 8 (Nat.le_refl _) (by unfold maxLen; decide)
       rw [Nat.zero_add] at hr
       rw [<- hq i hi]
       simpa [bytesV, List.map_take, List.map_drop] using hr
      have hRB : RbV (Da.mkR k n bs) (.slice (some ⟨g4, 0, none⟩) N N) wr := by
       unfold Da.mkR
       rw [if_pos HM.out]
       exact ⟨_, N, by rw [hml], hdrs gR N N, ⟨by rw [hdrs_length]; exact Nat.le_refl _, by unfold maxLen; omega, fun h => (by cases h), fun h => ⟨g4, 0, rfl, hA4.lt, fun i v hv => by rw [Nat.zero_add, hA4.cell]; exact hv⟩⟩, hEL⟩
      have HOW : Hid (∃ g xs, Value.slice (some ⟨g4, 0, none⟩) N N = .slice (some ⟨g, 0, none⟩) N N /\ w.heap.size <= g /\ Arr wr g 22 xs /\ Els wr (Da.mkL k n bs) xs /\ (∀ ad l c, Value.slice (some ad) l c ∈ xs -> ad.block ≠ g)) := Lh ⟨g4, hdrs gR N N, rfl, H4.out, hA4, hEL, fun ad l c hm => by
       obtain ⟨i, hi, e⟩ := List.getElem_of_mem hm
       have h2 : (hdrs gR N N)[i]? = some (.slice (some ad) l c) := by rw [List.getElem?_eq_getElem hi, e]
       rw [hdrs_length] at hi
       rw [hdrs_at _ _ _ _ hi, if_pos hi] at h2
       injection h2 with h2
       injection h2 with h2 _ _
       injection h2 with h2
       subst h2
       exact arr_apart hAR hA4 (by decide)⟩
      have HRB := Lh hRB
      clear hq hAR hA4 hA5 hAk hb hRB HX0 hro hZ hEL hml
      go_wp2_with fail
      refine bodyPost_ret (results_tmp2 rfl _ _ _) rfl ?_
      exact ⟨_, by rw [HM.out]; rfl, HRB.out, HBW.out, fun _ => HOW.out⟩
def Da.mk1 (k : List UInt8) (n : Int) (b : List UInt8) : List UInt8 := if Da.mb b n = 0 then Da.mk8 k n b else []
end Go.Proofs.YtffheegeaghfjaaGreatDoor
