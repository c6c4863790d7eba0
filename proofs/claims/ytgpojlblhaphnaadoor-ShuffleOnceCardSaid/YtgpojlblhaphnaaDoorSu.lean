/- Shuffles: the code's round function. -/
import Derived.Test.YtgpojlblhaphnaaDoorSg
namespace Go.Proofs.YtgpojlblhaphnaaDoor
open Go.RowKit
set_option linter.unusedVariables false
set_option linter.unusedSimpArgs false
theorem shl_byte (N y : Nat) (hy : y < 256) : bits .or .i64 (wrap64 (wrap64 (N : Int) * 256)) (y : Int) = wrap64 ((N * 256 + y : Nat) : Int) := by
  obtain ⟨q, hq⟩ : ∃ q, N % 72057594037927936 = q := ⟨_, rfl⟩
  have hx : (BitVec.ofInt 64 (wrap64 (wrap64 (N : Int) * 256))).toNat = q * 256 := by
    rw [BitVec.toNat_ofInt]
    have : wrap64 (wrap64 (N : Int) * 256) % ((2 ^ 64 : Nat) : Int) = ((q * 256 : Nat) : Int) := by
      simp only [wrap64]; omega
    rw [this]; omega
  have hy' : (BitVec.ofInt 64 (y : Int)).toNat = y := by
    rw [BitVec.toNat_ofInt]
    have : (y : Int) % ((2 ^ 64 : Nat) : Int) = (y : Int) := by omega
    rw [this]; omega
  show IntKind.i64.wrap ((BitVec.ofInt 64 (wrap64 (wrap64 (N : Int) * 256)) ||| BitVec.ofInt 64 (y : Int)).toNat : Int) = _
  rw [BitVec.toNat_or, hx, hy', or_add _ _ hy, IntKind.wrap_i64]
  simp only [wrap64]; omega
theorem wrap64_nought : wrap64 ((0 : Nat) : Int) = 0 := by simp only [wrap64]; decide
theorem low_wrap (N m : Nat) (h : m ≤ 10) : wrap64 (N : Int) % ((2 ^ m : Nat) : Int) = ((N % 2 ^ m : Nat) : Int) := by
  have hd : ((2 ^ m : Nat) : Int) ∣ 18446744073709551616 := by
    have : (2 ^ m : Nat) ∣ 2 ^ 64 := Nat.pow_dvd_pow 2 (by omega)
    exact Int.natCast_dvd_natCast.2 this
  have e : wrap64 (N : Int) % 18446744073709551616 = (N : Int) % 18446744073709551616 := by simp only [wrap64]; omega
  rw [← Int.emod_emod_of_dvd _ hd, e, Int.emod_emod_of_dvd _ hd]; rfl
def SuG (k : List UInt8) (r x : Nat) (b p : Nat) (Z : Array Value) (base : Nat) (i : Nat) (v : Value) (W : World) : Prop :=
  match i with
  | 0 => v = .pointer (some ⟨b, 0, none⟩)
  | 1 => v = .pointer (some ⟨p, 0, none⟩)
  | 2 => v = .int .i64 (r : Int)
  | 3 => v = .int .u8 ((UInt8.ofNat r).toNat : Int)
  | 4 => RowV [UInt8.ofNat r] v W
  | 5 => v = .int .i64 (x : Int)
  | 6 => RowV (Da.num8 x) v W
  | 7 => RbV [[UInt8.ofNat r], Da.num8 x] v W
  | 8 => v = .agg (bytesV (Da.hmac k (UInt8.ofNat r :: Da.num8 x))).toArray
  | 9 => ∃ g, v = .pointer (some ⟨g, 0, none⟩) ∧ base ≤ g ∧ W.heap[g]? = some (.cells Z 68 (0, 0))
  | _ => True
theorem SuG.later {k : List UInt8} {r x : Nat} {b p : Nat} {Z : Array Value} {base : Nat} (i : Nat) (u : Value) (v v' : World) (h : SuG k r x b p Z base i u v) (hb : Below v.heap.size v v') : SuG k r x b p Z base i u v' := by
  unfold SuG at *
  split at h
  · exact h
  · exact h
  · exact h
  · exact h
  · exact h.later hb
  · exact h
  · exact h.later hb
  · exact h.later hb
  · exact h
  · obtain ⟨g, e, hg, hh⟩ := h
    exact ⟨g, e, hg, by rw [hb.block _ (Array.getElem?_eq_some_iff.1 hh).1]; exact hh⟩
  · trivial
def SuAt (l : List UInt8) (w : World) (s i : Value) (wr : World) : Prop :=
  ∃ j : Nat, j ≤ 8 ∧ i = .int .i64 j ∧ s = .int .i64 (wrap64 (Da.nbe (l.take j) : Nat)) ∧ Below w.heap.size w wr
set_option maxRecDepth 100000 in
set_option maxHeartbeats 2000000 in
theorem smix_of (Z : Array Value) (hZ : Z = (bytesV (List.replicate 32 0)).toArray) (hzs : ∀ w, Sem.run Tryd.prog (zeroValue 68) w = .ok (.agg Z) w) (k : List UInt8) (p m : Nat) (h10 : m ≤ 10) (r : Nat) (hr : r < 256) (x : Nat) (w : World) (hA : Arr w p 67 (bytesV (Da.fil k))) (hV : Cds w) :
    Calls Tryd.prog 33 #[.agg #[.pointer (some ⟨p, 0, none⟩), .int .i64 (m : Int)], .int .i64 (r : Int), .int .i64 (x : Int)] w fun e w' => e = .returned (.int .i64 ((Da.mx k m r x : Nat) : Int)) ∧ Below w.heap.size w w' := by
  have hmf := @makes Tryd.prog
  obtain ⟨b, hbe⟩ : ∃ b, w.heap.size = b := ⟨_, rfl⟩
  obtain ⟨W1, hW1⟩ : ∃ W1, w.alloc (.cells #[.pointer (some ⟨p, 0, none⟩), .int .i64 (m : Int)] 44) = W1 := ⟨_, rfl⟩
  have hb1 : Below w.heap.size w W1 := by rw [← hW1]; exact (Below.refl _ _).alloc (Nat.le_refl _) _
  have hA1 : Arr W1 b 44 [.pointer (some ⟨p, 0, none⟩), .int .i64 (m : Int)] := by rw [← hW1, ← hbe]; exact Arr.made _ _ _
  have HA1 := Lib.hid hA1
  have HB1 := Lib.hid hb1
  have HE := Lib.hid hbe
  have HW1 := Lib.hid hW1
  have HA := Lib.hid (hA.later hb1 hA.lt)
  have HV := Lib.hid (hV.later hb1)
  obtain ⟨H, hH⟩ : ∃ H, Da.hmac k (UInt8.ofNat r :: Da.num8 x) = H := ⟨_, rfl⟩
  have hHl : H.length = 32 := by rw [← hH]; exact Da.hmac_length _ _
  have HH := Lib.hid hH
  have HHL := Lib.hid hHl
  clear hb1 hA1 hbe hW1 hA hV hH hHl
  go_enter Tryd.func33, Tryd.ntmps33
  go_wp2_with (first | rw [HW1.out, HE.out])
  refine Code.wp_mono (Q := fun e b' v => e = .normal ∧ ∃ (g : Nat) (f : Nat → Value), w.heap.size ≤ g ∧ Below W1.heap.size W1 v ∧ Arr v g 68 (bytesV H) ∧ b' = { tmps := #[.agg #[.pointer (some ⟨p, 0, none⟩), .int .i64 (m : Int)], .int .i64 (r : Int), .int .i64 (x : Int), .pointer (some ⟨b, 0, none⟩), f 4, f 5, .int .i64 0, .pointer (some ⟨g, 0, none⟩), f 8, f 9, f 10, f 11, f 12, f 13, f 14, f 15, f 16, f 17, f 18, f 19, f 20, f 21, f 22, f 23, f 24, f 25, f 26, f 27, f 28, f 29, f 30, f 31, f 32, f 33, f 34], defers := [] }) ?rest ?reg
  case reg =>
    have hr8 : (UInt8.ofNat r).toNat = r := by rw [UInt8.toNat_ofNat']; omega
    refine Rg.region_to (by kernel_rfl) (fun i => decide (i < 10)) (SuG k r x b p Z W1.heap.size) (by kernel_rfl) SuG.later ?step ?fin
    case step =>
      intro i op b' v hE ho hb hrest hdep
      have hi := (Array.getElem?_eq_some_iff.1 ho).1
      have r3 : b'.eval (.tmp 3) = .pointer (some ⟨b, 0, none⟩) := hrest 3 (Rg.freeOf_spec (by kernel_rfl))
      have r1 : b'.eval (.tmp 1) = .int .i64 (r : Int) := hrest 1 (Rg.freeOf_spec (by kernel_rfl))
      have r2 : b'.eval (.tmp 2) = .int .i64 (x : Int) := hrest 2 (Rg.freeOf_spec (by kernel_rfl))
      match i, hi with
      | 0, _ =>
        obtain rfl := Option.some.inj ho
        refine Rg.does_pure (.pointer (some ⟨b, 0, none⟩)) ?_ rfl
        have f1 : b'.tmps[3]?.getD undef = _ := (show _ = b'.eval (.tmp 3) by simp [Act.eval]).trans r3
        simp only [execOp]
        go_simp
      | 1, _ =>
        obtain rfl := Option.some.inj ho
        have d1 : b'.eval (.tmp 11) = .pointer (some ⟨b, 0, none⟩) := hdep ⟨0, .data⟩ (by simp) rfl rfl _ _ rfl rfl
        have f1 : b'.tmps[11]?.getD undef = _ := (show _ = b'.eval (.tmp 11) by simp [Act.eval]).trans d1
        have hc : v.cell? ⟨b, 0, none⟩ = some (.pointer (some ⟨p, 0, none⟩)) := (HA1.out.later hb HA1.out.lt).cell 0
        refine Rg.does_pure (.pointer (some ⟨p, 0, none⟩)) ?_ rfl
        simp only [execOp]
        go_simp
      | 2, _ =>
        obtain rfl := Option.some.inj ho
        exact Rg.does_move rfl r1
      | 3, _ =>
        obtain rfl := Option.some.inj ho
        have d1 : b'.eval (.tmp 13) = .int .i64 (r : Int) := hdep ⟨2, .data⟩ (by simp) rfl rfl _ _ rfl rfl
        have f1 : b'.tmps[13]?.getD undef = _ := (show _ = b'.eval (.tmp 13) by simp [Act.eval]).trans d1
        have hw8 : IntKind.u8.wrap (r : Int) = (r : Int) := by rw [IntKind.wrap_u8]; omega
        refine Rg.does_pure (.int .u8 (r : Int)) ?_ (by show Value.int .u8 (r : Int) = .int .u8 ((UInt8.ofNat r).toNat : Int); rw [hr8])
        simp only [execOp]
        go_simp
      | 4, _ =>
        obtain rfl := Option.some.inj ho
        have d1 : b'.eval (.tmp 14) = .int .u8 ((UInt8.ofNat r).toNat : Int) := hdep ⟨3, .data⟩ (by simp) rfl rfl _ _ rfl rfl
        have f1 : b'.tmps[14]?.getD undef = _ := (show _ = b'.eval (.tmp 14) by simp [Act.eval]).trans d1
        have hrun : RowV [UInt8.ofNat r] (.slice (some ⟨v.heap.size, 0, none⟩) 1 1) (v.alloc (.cells #[.int .u8 ((UInt8.ofNat r).toNat : Int)] 5)) := ⟨_, 1, rfl, one_row v (UInt8.ofNat r)⟩
        obtain ⟨y, hy⟩ : ∃ y : Int, ((UInt8.ofNat r).toNat : Int) = y := ⟨_, rfl⟩
        rw [hy] at f1 hrun
        refine Rg.does_new (v' := v.alloc (.cells #[.int .u8 y] 5)) (.slice (some ⟨v.heap.size, 0, none⟩) 1 1) ?_ hrun ((Below.refl _ _).alloc (Nat.le_refl _) _)
        simp only [execOp]
        go_simp
      | 5, _ =>
        obtain rfl := Option.some.inj ho
        exact Rg.does_move rfl r2
      | 6, _ =>
        obtain rfl := Option.some.inj ho
        have d1 : b'.eval (.tmp 16) = .int .i64 (x : Int) := hdep ⟨5, .data⟩ (by simp) rfl rfl _ _ rfl rfl
        exact Rg.does_fn rfl (enters_of Tryd.func39 (by kernel_rfl) rfl) (args := #[b'.eval (.tmp 16)]) (by simp) (lnum_rv d1)
      | 7, _ =>
        obtain rfl := Option.some.inj ho
        have d1 : RowV [UInt8.ofNat r] (b'.eval (.tmp 15)) v := hdep ⟨4, .data⟩ (by simp) rfl rfl _ _ rfl rfl
        have d2 : RowV (Da.num8 x) (b'.eval (.tmp 17)) v := hdep ⟨6, .data⟩ (by simp) rfl rfl _ _ rfl rfl
        have f1 : b'.tmps[15]?.getD undef = b'.eval (.tmp 15) := by simp [Act.eval]
        have f2 : b'.tmps[17]?.getD undef = b'.eval (.tmp 17) := by simp [Act.eval]
        generalize b'.eval (.tmp 15) = x1 at d1 f1
        generalize b'.eval (.tmp 17) = x2 at d2 f2
        obtain ⟨o1, c1, rfl, hr1⟩ := d1
        obtain ⟨o2, c2, rfl, hr2⟩ := d2
        have hrun : RbV [[UInt8.ofNat r], Da.num8 x] (.slice (some ⟨v.heap.size, 0, none⟩) 2 2) (v.alloc (.cells #[.slice o1 [UInt8.ofNat r].length c1, .slice o2 (Da.num8 x).length c2] 22)) := ⟨_, 2, rfl, two_parts hr1 hr2⟩
        obtain ⟨n1, hn1⟩ : ∃ n, [UInt8.ofNat r].length = n := ⟨_, rfl⟩
        rw [hn1] at f1 hrun
        refine Rg.does_new (v' := v.alloc (.cells #[.slice o1 n1 c1, .slice o2 (Da.num8 x).length c2] 22)) (.slice (some ⟨v.heap.size, 0, none⟩) 2 2) ?_ hrun ((Below.refl _ _).alloc (Nat.le_refl _) _)
        simp only [execOp]
        go_simp
      | 8, _ =>
        obtain rfl := Option.some.inj ho
        have d1 : b'.eval (.tmp 12) = .pointer (some ⟨p, 0, none⟩) := hdep ⟨1, .data⟩ (by simp) rfl rfl _ _ rfl rfl
        have d2 : RbV [[UInt8.ofNat r], Da.num8 x] (b'.eval (.tmp 18)) v := hdep ⟨7, .data⟩ (by simp) rfl rfl _ _ rfl rfl
        have hk := kofh_rv (HA.out.later hb HA.out.lt) d1 d2 (HV.out.later hb) (by simp [Da.num8_length]) (by simp)
        rw [show [[UInt8.ofNat r], Da.num8 x].flatten = UInt8.ofNat r :: Da.num8 x by simp] at hk
        exact Rg.does_fn rfl (enters_of Tryd.func38 (by kernel_rfl) rfl) (args := #[b'.eval (.tmp 12), b'.eval (.tmp 18)]) (by simp) hk
      | 9, _ =>
        obtain rfl := Option.some.inj ho
        refine Rg.does_new (v' := v.alloc (.cells Z 68)) (.pointer (some ⟨v.heap.size, 0, none⟩)) ?_ ⟨_, rfl, hb.size, World.alloc_heap_new _ _⟩ ((Below.refl _ _).alloc (Nat.le_refl _) _)
        simp only [execOp]
        go_simp
      | 10, _ => exact absurd hE (by decide)
      | m + 11, h => exact absurd h (by simp)
    case fin =>
      intro b' v hb hs hd hrest hall
      have r0 : b'.tmps.getD 0 undef = .agg #[.pointer (some ⟨p, 0, none⟩), .int .i64 (m : Int)] := hrest 0 (Rg.freeOf_spec (by kernel_rfl))
      have r1 : b'.tmps.getD 1 undef = .int .i64 (r : Int) := hrest 1 (Rg.freeOf_spec (by kernel_rfl))
      have r2 : b'.tmps.getD 2 undef = .int .i64 (x : Int) := hrest 2 (Rg.freeOf_spec (by kernel_rfl))
      have r3 : b'.tmps.getD 3 undef = .pointer (some ⟨b, 0, none⟩) := hrest 3 (Rg.freeOf_spec (by kernel_rfl))
      have r6 : b'.tmps.getD 6 undef = .int .i64 0 := hrest 6 (Rg.freeOf_spec (by kernel_rfl))
      obtain ⟨g, e7, hg, hh⟩ := hall 9 _ 7 rfl rfl rfl
      have e19 : b'.tmps.getD 19 undef = .agg (bytesV (Da.hmac k (UInt8.ofNat r :: Da.num8 x))).toArray := hall 8 _ 19 rfl rfl rfl
      rw [HH.out] at e19
      have hHl := HHL.out
      change wpAnyH _ _ _ _ _ 1 _ _ _
      refine wpAnyH_all (rs := [10]) (by kernel_rfl) (by simp) (fun i hi => ?_)
      obtain rfl : i = 10 := by simpa using hi
      refine Rg.op_store_row (g := g) rfl rfl rfl e7 e19 hh (by rw [dg_info]; simp [hHl]) (by rw [hZ]; simp [hHl]) (all_oneCell_toArray (bytesV_one _)) ⟨trivial, ?_⟩
      refine wpAnyH_done (by kernel_rfl) ?_ _
      refine ⟨rfl, g, fun i => b'.tmps.getD i undef, Nat.le_trans HB1.out.size hg, hb.trans (below_row hg), setRow_heap _ _ _ _ _ _ hh, ?_⟩
      have e := Rg.litG b'.tmps 35 hs
      obtain ⟨tm, df⟩ := b'
      obtain rfl : df = [] := hd
      dsimp only at r0 r1 r2 r3 r6 e7 e ⊢
      show ({ tmps := tm, defers := [] } : Act) = _
      congr 1
      refine e.trans ?_
      rw [← r0, ← r1, ← r2, ← r3, ← r6, ← e7]
      rfl
  case rest =>
    rintro e a' W2 ⟨rfl, g, f, hg, hb2, hd, rfl⟩
    rename_i K0 hK0
    show K0 _ _
    refine hK0 _ _ ?_
    clear hK0 K0
    have hr : RowIs W2 (some ⟨g, 0, none⟩) (bytesV (H.take 8)) 8 := by
      have h32 := hd.row (by rw [HHL.out]; unfold maxLen; decide)
      have := h32.part 0 8 (by simp [HHL.out]) 8 (Nat.le_refl _) (by unfold maxLen; decide)
      simpa [bytesV, List.map_take] using this
    have HR := Lib.hid hr
    have HD := Lib.hid hd
    have HB2 := Lib.hid (Kit.step HB1.out hb2)
    have HA2 := Lib.hid (HA1.out.later hb2 HA1.out.lt)
    have HGL := Lib.hid hg
    clear hr hb2 hd hg
    go_wp2_with fail
    go_loopw [8, 22] (fun s i wr => SuAt H W2 s i wr) (fun _ i _ => 8 - (intOf i).toNat)
    case atStart => exact ⟨0, by omega, rfl, by rw [Da.nbe_zero, wrap64_nought], Below.refl _ _⟩
    case round =>
      obtain ⟨j, hj, rfl, rfl, hB⟩ := hrel
      by_cases hlt : j < 8
      · have hc : wr.cell? ⟨g, j, none⟩ = some (.int .u8 ((H.getD j 0).toNat : Int)) := by
          rw [(HD.out.later hB HD.out.lt).cell]
          exact bytesV_get H j (by rw [HHL.out]; omega)
        have hst := Da.nbe_step H j (by rw [HHL.out]; omega)
        obtain ⟨s, hs⟩ : ∃ s, Da.nbe (H.take j) = s := ⟨_, rfl⟩
        obtain ⟨y, hy⟩ : ∃ y, (H.getD j 0).toNat = y := ⟨_, rfl⟩
        have hyl : y < 256 := by rw [← hy]; exact UInt8.toNat_lt _
        rw [hs, hy] at hst
        rw [hy] at hc
        rw [hs]
        have h2 : IntKind.i64.wrap (y : Int) = (y : Int) := by rw [IntKind.wrap_i64]; omega
        have HSB := Lib.hid (shl_byte s y hyl)
        obtain ⟨S, hS⟩ : ∃ S, wrap64 (s : Int) = S := ⟨_, rfl⟩
        rw [hS] at HSB ⊢
        have HB := Lib.hid hB
        have HST := Lib.hid hst
        clear hB hst hs hy hS
        go_wp2_with fail
        exact ⟨⟨j + 1, by omega, rfl, by rw [HST.out, ← HSB.out], HB.out⟩, by simp [intOf]; omega⟩
      · obtain rfl : j = 8 := by omega
        have HB := Lib.hid hB
        have LO := Lib.hid (slow_any p m h10 (wrap64 (Da.nbe (H.take 8) : Nat)) wr)
        rw [low_wrap _ m h10, ← HH.out] at LO
        have LO' : Hid (Calls Tryd.prog 37 #[.agg #[.pointer (some ⟨p, 0, none⟩), .int .i64 (m : Int)], .int .i64 (wrap64 (Da.nbe (H.take 8) : Nat))] wr fun e w' => e = .returned (.int .i64 ((Da.mx k m r x : Nat) : Int)) ∧ Below wr.heap.size wr w') := Lib.hid (by rw [← HH.out]; exact LO.out)
        obtain ⟨S, hS⟩ : ∃ S, wrap64 (Da.nbe (H.take 8) : Nat) = S := ⟨_, rfl⟩
        rw [hS] at LO' ⊢
        have HLD : Hid (wr.heap[b]? = some (.cells #[.pointer (some ⟨p, 0, none⟩), .int .i64 (m : Int)] 44 (0, 0))) := Lib.hid (HA2.out.later hB HA2.out.lt)
        clear hB hS LO
        go_wp2_with (first | refine wpList_load_row rfl 44 (.tmp 3) rfl b rfl 44 #[.pointer (some ⟨p, 0, none⟩), .int .i64 (m : Int)] (0, 0) _ HLD.out Tryd.underlying44 rfl stp_size ?_)
        refine LO'.out.mono ?_
        rintro e W3 ⟨rfl, hb3⟩
        go_wp2_with fail
        go_ret
        exact ⟨rfl, Kit.step (Kit.step HB2.out HB.out) hb3⟩
theorem smix_any (k : List UInt8) (p m : Nat) (h10 : m ≤ 10) (r : Nat) (hr : r < 256) (x : Nat) (w : World) (hA : Arr w p 67 (bytesV (Da.fil k))) (hV : Cds w) :
    Calls Tryd.prog 33 #[.agg #[.pointer (some ⟨p, 0, none⟩), .int .i64 (m : Int)], .int .i64 (r : Int), .int .i64 (x : Int)] w fun e w' => e = .returned (.int .i64 ((Da.mx k m r x : Nat) : Int)) ∧ Below w.heap.size w w' :=
  smix_of _ rfl dg_zero k p m h10 r hr x w hA hV
/-- what a step on, and back, has between its rounds -/
def OnAt (k : List UInt8) (m : Nat) (q : Nat × Nat) (w : World) (a b i : Value) (wr : World) : Prop :=
  ∃ j : Nat, j ≤ 4 ∧ i = .int .i64 j ∧ a = .int .i64 ((Da.rnds k m j q).1 : Nat) ∧ b = .int .i64 ((Da.rnds k m j q).2 : Nat) ∧ Below w.heap.size w wr
def BkAt (k : List UInt8) (m : Nat) (q : Nat × Nat) (w : World) (a b i : Value) (wr : World) : Prop :=
  ∃ (j : Nat) (u : Nat × Nat), j ≤ 4 ∧ i = .int .i64 ((j : Int) - 1) ∧ a = .int .i64 (u.1 : Nat) ∧ b = .int .i64 (u.2 : Nat) ∧ Da.Hv m u ∧ Da.unrs k m j u = Da.unrs k m 4 q ∧ Below w.heap.size w wr
set_option maxRecDepth 100000 in
set_option maxHeartbeats 1000000 in
theorem son_any (k : List UInt8) (p m : Nat) (h10 : m ≤ 10) (x : Nat) (hx : x < 4 ^ m) (w : World) (hA : Arr w p 67 (bytesV (Da.fil k))) (hV : Cds w) :
    Calls Tryd.prog 23 #[.agg #[.pointer (some ⟨p, 0, none⟩), .int .i64 (m : Int)], .int .i64 (x : Int)] w fun e w' => e = .returned (.int .i64 ((Da.son k m x : Nat) : Int)) ∧ Below w.heap.size w w' := by
  obtain ⟨b, hbe⟩ : ∃ b, w.heap.size = b := ⟨_, rfl⟩
  obtain ⟨W1, hW1⟩ : ∃ W1, w.alloc (.cells #[.pointer (some ⟨p, 0, none⟩), .int .i64 (m : Int)] 44) = W1 := ⟨_, rfl⟩
  have hb1 : Below w.heap.size w W1 := by rw [← hW1]; exact (Below.refl _ _).alloc (Nat.le_refl _) _
  have hA1 : Arr W1 b 44 [.pointer (some ⟨p, 0, none⟩), .int .i64 (m : Int)] := by rw [← hW1, ← hbe]; exact Arr.made _ _ _
  have HA1 := Lib.hid hA1
  have HB1 := Lib.hid hb1
  have HE := Lib.hid hbe
  have HW1 := Lib.hid hW1
  have HA := Lib.hid (hA.later hb1 hA.lt)
  have HV := Lib.hid (hV.later hb1)
  have HLD : Hid (W1.heap[b]? = some (.cells #[.pointer (some ⟨p, 0, none⟩), .int .i64 (m : Int)] 44 (0, 0))) := Lib.hid hA1
  have HQ := Lib.hid (Da.cut2_hv hx)
  have PA := Lib.hid (spart_any p m h10 x W1)
  have HX : Hid (Da.son k m x = (Da.rnds k m 4 (Da.cut2 m x)).1 * 2 ^ m + (Da.rnds k m 4 (Da.cut2 m x)).2) := Lib.hid rfl
  have HX0 : Hid (∀ wr, Below w.heap.size w wr → OnAt k m (Da.cut2 m x) w (.int .i64 ((x / 2 ^ m : Nat) : Int)) (.int .i64 ((x % 2 ^ m : Nat) : Int)) (.int .i64 0) wr) := Lib.hid (fun wr hb => ⟨0, by omega, rfl, rfl, rfl, hb⟩)
  obtain ⟨R1, hR1⟩ : ∃ R, ((x / 2 ^ m : Nat) : Int) = R := ⟨_, rfl⟩
  obtain ⟨R2, hR2⟩ : ∃ R, ((x % 2 ^ m : Nat) : Int) = R := ⟨_, rfl⟩
  rw [hR1, hR2] at PA HX0
  clear hb1 hA1 hbe hW1 hA hV hx hR1 hR2
  go_enter Tryd.func23, Tryd.ntmps23
  go_wp2_with (first | rw [HW1.out, HE.out] | refine wpList_load_row rfl 44 (.tmp 2) rfl b rfl 44 #[.pointer (some ⟨p, 0, none⟩), .int .i64 (m : Int)] (0, 0) _ HLD.out Tryd.underlying44 rfl stp_size ?_)
  refine PA.out.mono ?_
  rintro e W2 ⟨rfl, hb2⟩
  have HB12 := Lib.hid hb2
  have HB2 := Lib.hid (Kit.step HB1.out hb2)
  clear hb2 PA HLD
  go_wp2_with fail
  go_loopw [5, 6, 14] (fun a b i wr => OnAt k m (Da.cut2 m x) w a b i wr ∧ Below W1.heap.size W1 wr) (fun _ _ i _ => 4 - (intOf i).toNat)
  case atStart => exact ⟨HX0.out W2 HB2.out, HB12.out⟩
  case round =>
    obtain ⟨⟨j, hj, rfl, rfl, rfl, hB⟩, hB'⟩ := hrel
    have hv := HQ.out.rnds k j
    have HN : Hid (Da.rnds k m (j + 1) (Da.cut2 m x) = ((Da.rnds k m j (Da.cut2 m x)).2, (Da.rnds k m j (Da.cut2 m x)).1 ^^^ Da.mx k m j (Da.rnds k m j (Da.cut2 m x)).2)) := Lib.hid rfl
    have hXJ : j = 4 → Da.son k m x = (Da.rnds k m j (Da.cut2 m x)).1 * 2 ^ m + (Da.rnds k m j (Da.cut2 m x)).2 := fun h => by rw [h]; exact HX.out
    obtain ⟨⟨a, c⟩, hac⟩ : ∃ u, Da.rnds k m j (Da.cut2 m x) = u := ⟨_, rfl⟩
    rw [hac] at hv HN hXJ ⊢
    obtain ⟨ha, hc⟩ := hv
    dsimp only at ha hc HN hXJ ⊢
    have HLD : Hid (wr.heap[b]? = some (.cells #[.pointer (some ⟨p, 0, none⟩), .int .i64 (m : Int)] 44 (0, 0))) := Lib.hid (HA1.out.later hB' HA1.out.lt)
    have HB := Lib.hid hB
    have HB' := Lib.hid hB'
    have hb2 := two_bd h10
    clear hB hB' hac
    by_cases hlt : j < 4
    · have MX := Lib.hid (smix_any k p m h10 j (by omega) c wr (HA.out.later HB'.out HA.out.lt) (HV.out.later HB'.out))
      have hml := Da.mx_lt k m j c
      obtain ⟨y, hy⟩ : ∃ y, Da.mx k m j c = y := ⟨_, rfl⟩
      rw [hy] at MX HN hml
      have HXO := Lib.hid (xor_i64 a y (by omega) (by omega))
      clear hy hml ha hc hb2 hXJ
      go_wp2_with (first | refine wpList_load_row rfl 44 (.tmp 2) rfl b rfl 44 #[.pointer (some ⟨p, 0, none⟩), .int .i64 (m : Int)] (0, 0) _ HLD.out Tryd.underlying44 rfl stp_size ?_)
      refine MX.out.mono ?_
      rintro e W3 ⟨rfl, hb3⟩
      have HB3 := Lib.hid (Kit.step HB.out hb3)
      have HB3' := Lib.hid (Kit.step HB'.out hb3)
      clear hb3 MX
      go_wp2_with fail
      exact ⟨⟨⟨j + 1, by omega, by rfl, by rw [HN.out], by rw [HN.out, HXO.out], HB3.out⟩, HB3'.out⟩, by simp [intOf]; omega⟩
    · obtain rfl : j = 4 := by omega
      have JO := Lib.hid (sjoin_any p m h10 a c ha hc wr)
      rw [← hXJ rfl] at JO
      clear ha hc hb2 hXJ
      go_wp2_with (first | refine wpList_load_row rfl 44 (.tmp 2) rfl b rfl 44 #[.pointer (some ⟨p, 0, none⟩), .int .i64 (m : Int)] (0, 0) _ HLD.out Tryd.underlying44 rfl stp_size ?_)
      refine JO.out.mono ?_
      rintro e W3 ⟨rfl, hb3⟩
      go_wp2_with fail
      go_ret
      exact ⟨rfl, Kit.step HB.out hb3⟩
set_option maxRecDepth 100000 in
set_option maxHeartbeats 1000000 in
theorem sbk_any (k : List UInt8) (p m : Nat) (h10 : m ≤ 10) (x : Nat) (hx : x < 4 ^ m) (w : World) (hA : Arr w p 67 (bytesV (Da.fil k))) (hV : Cds w) :
    Calls Tryd.prog 24 #[.agg #[.pointer (some ⟨p, 0, none⟩), .int .i64 (m : Int)], .int .i64 (x : Int)] w fun e w' => e = .returned (.int .i64 ((Da.sbk k m x : Nat) : Int)) ∧ Below w.heap.size w w' := by
  obtain ⟨b, hbe⟩ : ∃ b, w.heap.size = b := ⟨_, rfl⟩
  obtain ⟨W1, hW1⟩ : ∃ W1, w.alloc (.cells #[.pointer (some ⟨p, 0, none⟩), .int .i64 (m : Int)] 44) = W1 := ⟨_, rfl⟩
  have hb1 : Below w.heap.size w W1 := by rw [← hW1]; exact (Below.refl _ _).alloc (Nat.le_refl _) _
  have hA1 : Arr W1 b 44 [.pointer (some ⟨p, 0, none⟩), .int .i64 (m : Int)] := by rw [← hW1, ← hbe]; exact Arr.made _ _ _
  have HA1 := Lib.hid hA1
  have HB1 := Lib.hid hb1
  have HE := Lib.hid hbe
  have HW1 := Lib.hid hW1
  have HA := Lib.hid (hA.later hb1 hA.lt)
  have HV := Lib.hid (hV.later hb1)
  have HLD : Hid (W1.heap[b]? = some (.cells #[.pointer (some ⟨p, 0, none⟩), .int .i64 (m : Int)] 44 (0, 0))) := Lib.hid hA1
  have PA := Lib.hid (spart_any p m h10 x W1)
  have HX : Hid (Da.sbk k m x = (Da.unrs k m 4 (Da.cut2 m x)).1 * 2 ^ m + (Da.unrs k m 4 (Da.cut2 m x)).2) := Lib.hid rfl
  have HX0 : Hid (∀ wr, Below w.heap.size w wr → BkAt k m (Da.cut2 m x) w (.int .i64 ((x / 2 ^ m : Nat) : Int)) (.int .i64 ((x % 2 ^ m : Nat) : Int)) (.int .i64 3) wr) := Lib.hid (fun wr hb => ⟨4, Da.cut2 m x, by omega, rfl, rfl, rfl, Da.cut2_hv hx, rfl, hb⟩)
  obtain ⟨R1, hR1⟩ : ∃ R, ((x / 2 ^ m : Nat) : Int) = R := ⟨_, rfl⟩
  obtain ⟨R2, hR2⟩ : ∃ R, ((x % 2 ^ m : Nat) : Int) = R := ⟨_, rfl⟩
  rw [hR1, hR2] at PA HX0
  clear hb1 hA1 hbe hW1 hA hV hx hR1 hR2
  go_enter Tryd.func24, Tryd.ntmps24
  go_wp2_with (first | rw [HW1.out, HE.out] | refine wpList_load_row rfl 44 (.tmp 2) rfl b rfl 44 #[.pointer (some ⟨p, 0, none⟩), .int .i64 (m : Int)] (0, 0) _ HLD.out Tryd.underlying44 rfl stp_size ?_)
  refine PA.out.mono ?_
  rintro e W2 ⟨rfl, hb2⟩
  have HB12 := Lib.hid hb2
  have HB2 := Lib.hid (Kit.step HB1.out hb2)
  clear hb2 PA HLD
  go_wp2_with fail
  go_loopw [5, 6, 7] (fun a b i wr => BkAt k m (Da.cut2 m x) w a b i wr ∧ Below W1.heap.size W1 wr) (fun _ _ i _ => (intOf i + 1).toNat)
  case atStart => exact ⟨HX0.out W2 HB2.out, HB12.out⟩
  case round =>
    obtain ⟨⟨j, ⟨a, c⟩, hj, rfl, rfl, rfl, ⟨ha, hc⟩, hun, hB⟩, hB'⟩ := hrel
    dsimp only at ha hc ⊢
    have HLD : Hid (wr.heap[b]? = some (.cells #[.pointer (some ⟨p, 0, none⟩), .int .i64 (m : Int)] 44 (0, 0))) := Lib.hid (HA1.out.later hB' HA1.out.lt)
    have HB := Lib.hid hB
    have HB' := Lib.hid hB'
    have HUN := Lib.hid hun
    have hb2 := two_bd h10
    clear hB hB' hun
    by_cases hlt : 0 < j
    · obtain ⟨r, rfl⟩ : ∃ r, j = r + 1 := ⟨j - 1, by omega⟩
      have hi : ((r + 1 : Nat) : Int) - 1 = (r : Int) := by omega
      have hd1 : decide ((r : Int) ≥ 0) = true := by simp
      rw [hi]
      have MX := Lib.hid (smix_any k p m h10 r (by omega) a wr (HA.out.later HB'.out HA.out.lt) (HV.out.later HB'.out))
      have hml := Da.mx_lt k m r a
      have HHV : Hid (Da.Hv m (c ^^^ Da.mx k m r a, a)) := Lib.hid (Da.Hv.unr (p := (a, c)) ⟨ha, hc⟩ k r)
      have HU2 : Hid (Da.unrs k m r (c ^^^ Da.mx k m r a, a) = Da.unrs k m 4 (Da.cut2 m x)) := Lib.hid HUN.out
      obtain ⟨y, hy⟩ : ∃ y, Da.mx k m r a = y := ⟨_, rfl⟩
      rw [hy] at MX HHV HU2 hml
      have HXO := Lib.hid (xor_i64 c y (by omega) (by omega))
      clear hy hml ha hc hb2 hi
      go_wp2_with (first | refine wpList_load_row rfl 44 (.tmp 2) rfl b rfl 44 #[.pointer (some ⟨p, 0, none⟩), .int .i64 (m : Int)] (0, 0) _ HLD.out Tryd.underlying44 rfl stp_size ?_)
      refine MX.out.mono ?_
      rintro e W3 ⟨rfl, hb3⟩
      have HB3 := Lib.hid (Kit.step HB.out hb3)
      have HB3' := Lib.hid (Kit.step HB'.out hb3)
      clear hb3 MX
      go_wp2_with fail
      exact ⟨⟨⟨r, _, by omega, rfl, by rw [HXO.out], rfl, HHV.out, HU2.out, HB3.out⟩, HB3'.out⟩, by simp [intOf]⟩
    · obtain rfl : j = 0 := by omega
      have hd1 : decide (((0 : Nat) : Int) - 1 ≥ 0) = false := by decide
      have JO := Lib.hid (sjoin_any p m h10 a c ha hc wr)
      have e : (a, c) = Da.unrs k m 4 (Da.cut2 m x) := HUN.out
      have hXJ : Da.sbk k m x = a * 2 ^ m + c := by rw [HX.out, ← e]
      rw [← hXJ] at JO
      clear ha hc hb2 hXJ e
      go_wp2_with (first | refine wpList_load_row rfl 44 (.tmp 2) rfl b rfl 44 #[.pointer (some ⟨p, 0, none⟩), .int .i64 (m : Int)] (0, 0) _ HLD.out Tryd.underlying44 rfl stp_size ?_)
      refine JO.out.mono ?_
      rintro e W3 ⟨rfl, hb3⟩
      go_wp2_with fail
      go_ret
      exact ⟨rfl, Kit.step HB.out hb3⟩
end Go.Proofs.YtgpojlblhaphnaaDoor
