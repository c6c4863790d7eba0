/- Macs, plain; the code's key: Make, with. -/
import Derived.Test.YtjfbjonbgljcfaaDoorHk
import Derived.Laws.CopyOwn
import Derived.Laws.BitsAllLaws
namespace Go.Proofs.YtjfbjonbgljcfaaDoor.Da
/-- a key, filled up -/
def fil (k : List UInt8) : List UInt8 := (if 64 < k.length then sha k else k) ++ List.replicate (64 - (if 64 < k.length then sha k else k).length) 0
def xk (k : List UInt8) (x : UInt8) : List UInt8 := k.map (· ^^^ x)
def hmac (k m : List UInt8) : List UInt8 := sha (xk (fil k) 92 ++ sha (xk (fil k) 54 ++ m))
def xi (k : List UInt8) (x : UInt8) (i : Nat) : List UInt8 := xk (k.take i) x ++ k.drop i
theorem short_le (k : List UInt8) : (if 64 < k.length then sha k else k).length ≤ 64 := by
  by_cases h : 64 < k.length
  · rw [if_pos h, sha_length]; omega
  · rw [if_neg h]; omega
theorem fil_length (k : List UInt8) : (fil k).length = 64 := by
  have := short_le k
  unfold fil
  rw [List.length_append, List.length_replicate]; omega
theorem xk_length (k : List UInt8) (x : UInt8) : (xk k x).length = k.length := by simp [xk]
theorem hmac_length (k m : List UInt8) : (hmac k m).length = 32 := sha_length _
theorem xi_length (k : List UInt8) (x : UInt8) (i : Nat) : (xi k x i).length = k.length := by simp [xi, xk]; omega
theorem xi_zero (k : List UInt8) (x : UInt8) : xi k x 0 = k := by simp [xi, xk]
theorem xi_all (k : List UInt8) (x : UInt8) : xi k x k.length = xk k x := by simp [xi]
theorem xi_at (k : List UInt8) (x : UInt8) (i : Nat) (h : i < k.length) : (xi k x i)[i]? = some (k.getD i 0) := by
  unfold xi
  rw [List.getElem?_append_right (by simp [xk]; omega)]
  simp [xk, h, List.getElem?_drop, Nat.min_eq_left (Nat.le_of_lt h)]
theorem xi_get (k : List UInt8) (x : UInt8) (i : Nat) (h : i < k.length) : (xi k x i).getD i 0 = k.getD i 0 := by
  rw [List.getD_eq_getElem?_getD, xi_at k x i h]; rfl
theorem xi_step (k : List UInt8) (x : UInt8) (i : Nat) (h : i < k.length) : (xi k x i).set i (k.getD i 0 ^^^ x) = xi k x (i + 1) := by
  have hl : (xk (k.take i) x).length = i := by simp [xk]; omega
  unfold xi
  rw [List.set_append_right _ _ (by omega), hl, Nat.sub_self, List.drop_eq_getElem_cons h, List.set_cons_zero, List.take_add_one, List.getElem?_eq_getElem h]
  simp only [xk, List.map_append, List.append_assoc]
  simp [h]
/-- what is copied into noughts -/
theorem bytesV_rep (n : Nat) : bytesV (List.replicate n 0) = List.replicate n (.int .u8 0) := by unfold bytesV; rw [List.map_replicate]; rfl
theorem fil_copy (s : List UInt8) : splice (bytesV (List.replicate 64 0)) 0 (bytesV s) = bytesV (s ++ List.replicate (64 - s.length) 0) := by
  rw [bytesV_rep]
  simp only [splice, bytesV, List.take_zero, List.nil_append, List.drop_replicate, List.length_map, Nat.zero_add, List.map_append, List.map_replicate]
  rfl
end Go.Proofs.YtjfbjonbgljcfaaDoor.Da
namespace Go.Proofs.YtjfbjonbgljcfaaDoor
open Go.RowKit
set_option linter.unusedVariables false
set_option linter.unusedSimpArgs false
theorem key_built (w : World) : Sem.run Tryd.prog (zeroValue 41) w = .ok (.agg (bytesV (List.replicate 64 0)).toArray) w := by kernel_rfl
/-- one part -/
theorem one_part {w : World} {ad : Option Addr} {c : Nat} {x : List UInt8} (hR : RowIs w ad (bytesV x) c) :
    RbIs (w.alloc (.cells #[.slice ad x.length c] 22)) (some ⟨w.heap.size, 0, none⟩) [x] 1 :=
  have hA : Arr (w.alloc (.cells #[.slice ad x.length c] 22)) w.heap.size 22 [.slice ad x.length c] := Arr.made _ _ _
  ⟨[.slice ad x.length c], ⟨by simp, by unfold maxLen; decide, fun h => by (cases h), fun h0 => ⟨w.heap.size, 0, rfl, hA.lt, fun i v hv => by rw [Nat.zero_add, hA.cell]; exact hv⟩⟩,
    Els.one ⟨ad, c, rfl, hR.later ((Below.refl _ _).alloc (Nat.le_refl _) _)⟩⟩
set_option maxRecDepth 100000 in
set_option maxHeartbeats 1000000 in
theorem kmake_of (Z D : Array Value) (hZ : Z = (bytesV (List.replicate 64 0)).toArray) (hzs : ∀ w, Sem.run Tryd.prog (zeroValue 41) w = .ok (.agg Z) w) (hD : D = (bytesV (List.replicate 32 0)).toArray) (hds : ∀ w, Sem.run Tryd.prog (zeroValue 31) w = .ok (.agg D) w)
    (k : List UInt8) (o : Option Addr) (c : Nat) (w : World) (hR : RowIs w o (bytesV k) c) (hV : Cds w) (hl : k.length ≤ 900000) :
    Calls Tryd.prog 7 #[.slice o k.length c] w fun e w' => e = .returned (.pointer (some ⟨w.heap.size, 0, none⟩)) ∧ Arr w' w.heap.size 41 (bytesV (Da.fil k)) ∧ Below w.heap.size w w' := by
  obtain ⟨g, hg⟩ : ∃ g, w.heap.size = g := ⟨_, rfl⟩
  obtain ⟨W1, hW1⟩ : ∃ W1, w.alloc (Obj.cells Z 41) = W1 := ⟨_, rfl⟩
  have hb1 : Below w.heap.size w W1 := by rw [← hW1]; exact (Below.refl _ _).alloc (Nat.le_refl _) _
  have hs1 : W1.heap.size = g + 1 := by rw [← hW1, World.size_alloc, hg]
  have hA1 : Arr W1 g 41 (bytesV (List.replicate 64 0)) := by rw [← hW1, hZ, ← hg]; exact Arr.made _ _ _
  have hR1 := hR.later hb1
  have hV1 := hV.later hb1
  have HW1 := Lib.hid hW1
  have HB1 := Lib.hid hb1
  have HS1 := Lib.hid hs1
  have HA1 := Lib.hid hA1
  have HG := Lib.hid hg
  by_cases hlong : 64 < k.length
  · have hd : decide ((k.length : Int) > 64) = true := by simp; omega
    have SO : Hid (Calls Tryd.prog 16 #[.slice (some ⟨W1.heap.size, 0, none⟩) 1 1] (W1.alloc (.cells #[.slice o k.length c] 22)) fun e w' => e = .returned (.agg (bytesV (Da.sha k)).toArray) ∧ Below (W1.alloc (.cells #[.slice o k.length c] 22)).heap.size (W1.alloc (.cells #[.slice o k.length c] 22)) w') := Lib.hid (by
      have := sof_any [k] (some ⟨W1.heap.size, 0, none⟩) 1 (W1.alloc (.cells #[.slice o k.length c] 22)) (one_part hR1) (hV1.later ((Below.refl _ _).alloc (Nat.le_refl _) _)) (by simpa using hl) (by simp)
      rw [show ([k] : List (List UInt8)).flatten = k by simp] at this
      exact this)
    have HC : Hid ([Value.slice o k.length c].toArray = #[Value.slice o k.length c]) := Lib.hid rfl
    obtain ⟨W2, hW2⟩ : ∃ W2, W1.alloc (.cells #[.slice o k.length c] 22) = W2 := ⟨_, rfl⟩
    have HB2 : Hid (Below w.heap.size w W2) := Lib.hid (Kit.step hb1 (by rw [← hW2]; exact (Below.refl _ _).alloc (Nat.le_refl _) _))
    rw [hW2] at SO
    obtain ⟨F, hF⟩ : ∃ F, (bytesV (Da.sha k)).toArray = F := ⟨_, rfl⟩
    rw [hF] at SO
    have HRS : Hid ((Tryd.prog.info? 31).map (·.size) = some F.size) := Lib.hid (by rw [dg_info, ← hF]; simp [Da.sha_length])
    have HRO : Hid (F.all (·.oneCell') = true) := Lib.hid (by rw [← hF]; exact all_oneCell_toArray (bytesV_one _))
    have HRZ : Hid (D.size = F.size) := Lib.hid (by rw [hD, ← hF]; simp [Da.sha_length])
    have HF := Lib.hid hF
    have HW2 := Lib.hid hW2
    clear hR hV hW1 hb1 hs1 hA1 hR1 hV1 hZ hF hW2 hg
    go_enter Tryd.func7, Tryd.ntmps7
    go_upto_region 2 with fail
    rw [HW1.out, HG.out]
    have HD := Lib.hid hD
    clear hD
    go_upto_region 3 with fail
    apply wp_region_lit
    (refine wpList_plain rfl (fun K hK => ?_); go_simp; refine hK _ _ ?_; clear hK K)
    (refine wpList_plain rfl (fun K hK => ?_); go_simp; refine hK _ _ ?_; clear hK K)
    rw [HW2.out]
    (refine wpList_plain rfl (fun K hK => ?_); go_simp)
    refine SO.out.mono ?_
    rintro e W3 ⟨rfl, hb3⟩
    refine hK _ _ ?_
    clear hK K
    obtain ⟨W4, hW4⟩ : ∃ W4, W3.alloc (.cells D 31) = W4 := ⟨_, rfl⟩
    obtain ⟨W5, hW5⟩ : ∃ W5, W4.setRow W3.heap.size F = W5 := ⟨_, rfl⟩
    have hA4 : Arr W4 W3.heap.size 31 D.toList := by rw [← hW4]; exact Arr.made _ _ _
    have hA5 : Arr W5 W3.heap.size 31 (bytesV (Da.sha k)) := by rw [← hW5, ← HF.out]; exact setRow_heap _ _ _ _ _ _ hA4
    have hb5 : Below W3.heap.size W3 W5 := by rw [← hW5, ← hW4]; exact ((Below.refl _ _).alloc (Nat.le_refl _) _).trans (below_row (Nat.le_refl _))
    have hr3 : Below W1.heap.size W1 W3 := Kit.step (by rw [← HW2.out]; exact (Below.refl _ _).alloc (Nat.le_refl _) _) hb3
    have hA1 : Arr W5 g 41 (bytesV (List.replicate 64 0)) := (HA1.out.later hr3 HA1.out.lt).later hb5 (Nat.lt_of_lt_of_le HA1.out.lt hr3.size)
    have hB5 : Below w.heap.size w W5 := Kit.step (Kit.step HB2.out hb3) hb5
    have HA4 : Hid (W4.heap[W3.heap.size]? = some (.cells D 31 (0, 0))) := Lib.hid hA4
    have HA5 := Lib.hid hA5
    have HA1 := Lib.hid hA1
    have HB5 := Lib.hid hB5
    have HW4 := Lib.hid hW4
    have HW5 := Lib.hid hW5
    clear hW4 hW5 hA4 hA5 hb5 hr3 hA1 hB5 hb3 SO
    (refine wpList_plain rfl (fun K hK => ?_); go_simp; refine hK _ _ ?_; clear hK K)
    rw [HW4.out]
    refine wpList_store_row rfl 31 (.tmp 4) (.tmp 10) rfl W3.heap.size F rfl rfl 31 D HA4.out HRS.out HRZ.out HRO.out ?_
    rw [HW5.out]
    go_upto_region 5 with fail
    apply wp_region_lit
    (refine wpList_plain rfl (fun K hK => ?_); go_simp; refine hK _ _ ?_; clear hK K)
    (refine wpList_plain rfl (fun K hK => ?_); go_simp; refine hK _ _ ?_; clear hK K)
    (refine wpList_plain rfl (fun K hK => ?_); go_simp; refine hK _ _ ?_; clear hK K)
    refine wpList_copy_splice rfl (.tmp 13) (.tmp 14) 22 22 rfl 5 (by kernel_rfl) (by kernel_rfl) (some ⟨g, 0, none⟩) (some ⟨W3.heap.size, 0, none⟩) 64 64 32 32 rfl rfl g 0 (bytesV (List.replicate 64 0)) 41 HA1.out (bytesV (Da.sha k)) (by simp [Da.sha_length])
      (fun _ => ⟨rfl, _, rfl, fun j v hv => by rw [Addr.add_mid, Nat.zero_add, HA5.out.cell]; exact hv⟩) (by simp [Da.sha_length]) (bytesV_one _) w.heap.size w HB5.out (Nat.le_of_eq HG.out) ?_
    intro w' h1 h2
    have hE : Arr w' g 41 (bytesV (Da.fil k)) := by
      have := h1.out
      rw [Da.fil_copy] at this
      unfold Da.fil
      rw [if_pos hlong]
      exact this
    have HE := Lib.hid hE
    have HB6 := Lib.hid h2
    clear hE h2 h1
    go_wp2_with fail
    go_ret
    exact ⟨by rw [HG.out]; rfl, by rw [HG.out]; exact HE.out, HB6.out⟩
  · have hd : decide ((k.length : Int) > 64) = false := by simp; omega
    have HR1 := Lib.hid hR1
    clear hR hV hW1 hb1 hs1 hA1 hR1 hV1 hZ hg
    go_enter Tryd.func7, Tryd.ntmps7
    go_upto_region 2 with fail
    rw [HW1.out, HG.out]
    go_upto_region 5 with fail
    apply wp_region_lit
    (refine wpList_plain rfl (fun K hK => ?_); go_simp; refine hK _ _ ?_; clear hK K)
    (refine wpList_plain rfl (fun K hK => ?_); go_simp; refine hK _ _ ?_; clear hK K)
    (refine wpList_plain rfl (fun K hK => ?_); go_simp; refine hK _ _ ?_; clear hK K)
    refine wpList_copy_splice rfl (.tmp 13) (.tmp 14) 22 22 rfl 5 (by kernel_rfl) (by kernel_rfl) (some ⟨g, 0, none⟩) o 64 64 k.length c rfl rfl g 0 (bytesV (List.replicate 64 0)) 41 HA1.out (bytesV k) (by rw [bytesV_length]; exact (Nat.min_eq_left (by omega)).symm)
      (fun h0 => ⟨rfl, by
        obtain ⟨b2, off2, e, hb2, hc2⟩ := HR1.out.cells h0
        exact ⟨_, e, fun j v hv => by rw [Addr.add_mid]; exact hc2 j v hv⟩⟩) (by simp; omega) (bytesV_one _) w.heap.size w HB1.out (Nat.le_of_eq HG.out) ?_
    intro w' h1 h2
    have hE : Arr w' g 41 (bytesV (Da.fil k)) := by
      have := h1.out
      rw [Da.fil_copy] at this
      unfold Da.fil
      rw [if_neg hlong]
      exact this
    have HE := Lib.hid hE
    have HB6 := Lib.hid h2
    clear hE h2 h1
    go_wp2_with fail
    go_ret
    exact ⟨by rw [HG.out]; rfl, by rw [HG.out]; exact HE.out, HB6.out⟩
theorem kmake_any (k : List UInt8) (o : Option Addr) (c : Nat) (w : World) (hR : RowIs w o (bytesV k) c) (hV : Cds w) (hl : k.length ≤ 900000) :
    Calls Tryd.prog 7 #[.slice o k.length c] w fun e w' => e = .returned (.pointer (some ⟨w.heap.size, 0, none⟩)) ∧ Arr w' w.heap.size 41 (bytesV (Da.fil k)) ∧ Below w.heap.size w w' :=
  kmake_of _ _ rfl key_built rfl dg_zero k o c w hR hV hl
def Wi1 (k : List UInt8) (x : UInt8) (w : World) (g : Nat) (i : Value) (wr : World) : Prop :=
  ∃ j : Nat, j ≤ 64 ∧ i = .int .i64 j ∧ Arr wr g 39 (bytesV (Da.xi k x j)) ∧ Below w.heap.size w wr
set_option maxRecDepth 100000 in
set_option maxHeartbeats 1000000 in
theorem with_of (Z : Array Value) (hZ : Z = (bytesV (List.replicate 64 0)).toArray) (hzs : ∀ w, Sem.run Tryd.prog (zeroValue 39) w = .ok (.agg Z) w)
    (k : List UInt8) (hk : k.length = 64) (x : UInt8) (b : Nat) (w : World) (hA : Arr w b 41 (bytesV k)) :
    Calls Tryd.prog 20 #[.pointer (some ⟨b, 0, none⟩), .int .u8 x.toNat] w fun e w' => e = .returned (.slice (some ⟨w.heap.size, 0, none⟩) 64 64) ∧ Arr w' w.heap.size 39 (bytesV (Da.xk k x)) ∧ Below w.heap.size w w' := by
  obtain ⟨g, hg⟩ : ∃ g, w.heap.size = g := ⟨_, rfl⟩
  obtain ⟨F, hF⟩ : ∃ F, (bytesV k).toArray = F := ⟨_, rfl⟩
  obtain ⟨W1, hW1⟩ : ∃ W1, w.alloc (Obj.cells Z 39) = W1 := ⟨_, rfl⟩
  obtain ⟨W2, hW2⟩ : ∃ W2, W1.setRow g F = W2 := ⟨_, rfl⟩
  have hA1 : Arr W1 g 39 Z.toList := by rw [← hW1, ← hg]; exact Arr.made _ _ _
  have hA2 : Arr W2 g 39 (bytesV (Da.xi k x 0)) := by rw [← hW2, Da.xi_zero, ← hF]; exact setRow_heap _ _ _ _ _ _ hA1
  have hb2 : Below w.heap.size w W2 := by rw [← hW2, ← hW1]; exact ((Below.refl _ _).alloc (Nat.le_refl _) _).trans (below_row (Nat.le_of_eq hg))
  have HLD : Hid (w.heap[b]? = some (.cells F 41 (0, 0))) := Lib.hid (by rw [← hF]; exact hA)
  have HSZ : Hid ((Tryd.prog.info? 39).map (·.size) = some F.size) := Lib.hid (by rw [b64_info, ← hF]; simp [hk])
  have HST : Hid (W1.heap[g]? = some (.cells Z 39 (0, 0))) := Lib.hid hA1
  have HOC : Hid (F.all (·.oneCell') = true) := Lib.hid (by rw [← hF]; exact all_oneCell_toArray (bytesV_one _))
  have HZS : Hid (Z.size = F.size) := Lib.hid (by rw [hZ, ← hF]; simp [hk])
  have HA2 := Lib.hid hA2
  have HB2 := Lib.hid hb2
  have HW1 := Lib.hid hW1
  have HW2 := Lib.hid hW2
  have HG := Lib.hid hg
  have HK := Lib.hid hk
  clear hA1 hA2 hb2 hW1 hW2 hg hF hZ hA hk
  go_enter Tryd.func20, Tryd.ntmps20
  go_upto_region 1 with fail
  apply wp_region_lit
  (refine wpList_plain rfl (fun K hK => ?_); go_simp; refine hK _ _ ?_; clear hK K)
  (refine wpList_plain rfl (fun K hK => ?_); go_simp; refine hK _ _ ?_; clear hK K)
  (refine wpList_plain rfl (fun K hK => ?_); go_simp; refine hK _ _ ?_; clear hK K)
  refine wpList_load_row rfl 39 (.tmp 9) rfl b rfl 41 F (0, 0) _ HLD.out b64_under rfl HSZ.out ?_
  (refine wpList_plain rfl (fun K hK => ?_); go_simp; refine hK _ _ ?_; clear hK K)
  rw [HW1.out, HG.out]
  refine wpList_store_row rfl 39 (.tmp 5) (.tmp 10) rfl g F rfl rfl 39 Z HST.out HSZ.out HZS.out HOC.out ?_
  rw [HW2.out]
  go_wp2_with fail
  go_loopw [11] (fun i wr => Wi1 k x w g i wr) (fun i _ => 64 - (intOf i).toNat)
  case atStart => exact ⟨0, Nat.zero_le _, rfl, HA2.out, HB2.out⟩
  case round =>
    rename World => X1
    obtain ⟨j, hj, rfl, hA, hB⟩ := hrel
    by_cases hlt : j < 64
    · have hd1 : decide ((j : Int) < 64) = true := by simp; omega
      have hc := hA.cell j
      have hf := hA.frozen j
      obtain ⟨y, hy⟩ : ∃ y, k.getD j 0 = y := ⟨_, rfl⟩
      have hst := Da.xi_step k x j (by rw [HK.out]; exact hlt)
      rw [bytesV_get _ _ (by rw [Da.xi_length, HK.out]; exact hlt), Da.xi_get _ _ _ (by rw [HK.out]; exact hlt), hy] at hc
      rw [hy] at hst
      have hX : Hid (bits .xor .u8 (y.toNat : Int) (x.toNat : Int) = ((y ^^^ x).toNat : Int)) := Lib.hid (by
        rw [u8_xor_nat _ _ (UInt8.toNat_lt _) (UInt8.toNat_lt _), UInt8.toNat_xor])
      have hA' : Arr (X1.setCell ⟨g, j, none⟩ (.int .u8 ((y ^^^ x).toNat : Int))) g 39 (bytesV (Da.xi k x (j + 1))) := by
        have := hA.set j (.int .u8 ((y ^^^ x).toNat : Int))
        rw [bytesV_set', hst] at this
        exact this
      have hB' := hA.below hB (Nat.le_of_eq HG.out) j (.int .u8 ((y ^^^ x).toNat : Int))
      have HX : Hid (Wi1 k x w g (.int .i64 ((j : Int) + 1)) (X1.setCell ⟨g, j, none⟩ (.int .u8 ((y ^^^ x).toNat : Int)))) := Lib.hid ⟨j + 1, by omega, by go_num, hA', hB'⟩
      clear hA hB hA' hB' hst hy
      go_wp2_with fail
      rw [hX.out]
      exact ⟨HX.out, by simp [intOf]; omega⟩
    · obtain rfl : j = 64 := by omega
      have hE : Arr X1 g 39 (bytesV (Da.xk k x)) := by
        have := Da.xi_all k x
        rw [HK.out] at this
        rw [← this]; exact hA
      have HE := Lib.hid hE
      have HB := Lib.hid hB
      clear hE hA hB
      go_wp2_with fail
      go_ret
      exact ⟨by rw [HG.out]; rfl, by rw [HG.out]; exact HE.out, HB.out⟩
theorem a64_zero (w : World) : Sem.run Tryd.prog (zeroValue 39) w = .ok (.agg (bytesV (List.replicate 64 0)).toArray) w := by kernel_rfl
theorem with_any (k : List UInt8) (hk : k.length = 64) (x : UInt8) (b : Nat) (w : World) (hA : Arr w b 41 (bytesV k)) :
    Calls Tryd.prog 20 #[.pointer (some ⟨b, 0, none⟩), .int .u8 x.toNat] w fun e w' => e = .returned (.slice (some ⟨w.heap.size, 0, none⟩) 64 64) ∧ Arr w' w.heap.size 39 (bytesV (Da.xk k x)) ∧ Below w.heap.size w w' :=
  with_of _ rfl a64_zero k hk x b w hA
end Go.Proofs.YtjfbjonbgljcfaaDoor
