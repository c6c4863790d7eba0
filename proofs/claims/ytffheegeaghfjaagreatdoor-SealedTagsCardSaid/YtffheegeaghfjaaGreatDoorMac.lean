/- Mac -/
import Derived.Test.YtffheegeaghfjaaGreatDoorHk
import Derived.Laws.CopyOwn
import Derived.Laws.BitsAllLaws
set_option linter.unusedVariables false
set_option linter.unusedSimpArgs false
set_option maxRecDepth 100000
set_option maxHeartbeats 8000000
namespace Go.Proofs.YtffheegeaghfjaaGreatDoor.Da
def fil (k : List UInt8) : List UInt8 := (if 64 < k.length then sha k else k) ++ List.replicate (64 - (if 64 < k.length then sha k else k).length) 0
def xk (k : List UInt8) (x : UInt8) : List UInt8 := k.map (· ^^^ x)
def hmac (k m : List UInt8) : List UInt8 := sha (xk (fil k) 92 ++ sha (xk (fil k) 54 ++ m))
def xi (k : List UInt8) (x : UInt8) (i : Nat) : List UInt8 := xk (k.take i) x ++ k.drop i
theorem short_le (k : List UInt8) : (if 64 < k.length then sha k else k).length <= 64 := by
 by_cases h : 64 < k.length
 ·rw [if_pos h, sha_length]; omega
 ·rw [if_neg h]; omega
theorem fil_length (k : List UInt8) : (fil k).length = 64 := by
 have := short_le k
 unfold fil
 rw [List.length_append, List.length_replicate]; omega
theorem xk_length (k : List UInt8) (x : UInt8) : (xk k x).length = k.length := by simp [xk]
theorem hmac_length (k m : List UInt8) : (hmac k m).length = 32 := sha_length _
theorem xi_length (k : List UInt8) (x : UInt8) (i : Nat) : (xi k x i).length = k.length := by simp [xi, xk]; omega
theorem xi_zero (k : List UInt8) (x : UInt8) : xi k x 0 = k := by simp [xi, xk]
theorem xi_all (k : List UInt8) (x : UInt8) : xi k x k.length = xk k x := by simp [xi]
theorem xi_at (k : List UInt8) (x : UInt8) (i : Nat) (h : i < k.length) : (xi k x i)[i]? = some (k.getD i 0) := by
 unfold xi
 rw [List.getElem?_append_right (by simp [xk]; omega)]
 simp [xk, h, List.getElem?_drop, Nat.min_eq_left (Nat.le_of_lt h)]
theorem xi_get (k : List UInt8) (x : UInt8) (i : Nat) (h : i < k.length) : (xi k x i).getD i 0 = k.getD i 0 := by
 rw [List.getD_eq_getElem?_getD, xi_at k x i h]; rfl
theorem xi_step (k : List UInt8) (x : UInt8) (i : Nat) (h : i < k.length) : (xi k x i).set i (k.getD i 0 ^^^ x) = xi k x (i + 1) := by
 have hl : (xk (k.take i) x).length = i := by simp [xk]; omega
 unfold xi
 rw [List.set_append_right _ _ (by omega), hl, Nat.sub_self, List.drop_eq_getElem_cons h, List.set_cons_zero, List.take_add_one, List.getElem?_eq_getElem h]
 simp only [xk, List.map_append, List.append_assoc]
 simp [h]
theorem bytesV_rep (n : Nat) : bytesV (List.replicate n 0) = List.replicate n (.int .u8 0) := by unfold bytesV; rw [List.map_replicate]; rfl
theorem fil_copy (s : List UInt8) : splice (bytesV (List.replicate 64 0)) 0 (bytesV s) = bytesV (s ++ List.replicate (64 - s.length) 0) := by
 rw [bytesV_rep]
 simp only [splice, bytesV, List.take_zero, List.nil_append, List.drop_replicate, List.length_map, Nat.zero_add, List.map_append, List.map_replicate]
 rfl
end Go.Proofs.YtffheegeaghfjaaGreatDoor.Da
namespace Go.Proofs.YtffheegeaghfjaaGreatDoor
open Go.RowKit
theorem key_built (w : World) : Sem.run Tryz.prog (zeroValue 175) w = .ok (.agg (bytesV (List.replicate 64 0)).toArray) w := by kernel_rfl
theorem one_part {w : World} {ad : Option Addr} {c : Nat} {x : List UInt8} (hR : RowIs w ad (bytesV x) c) :
    RbIs (w.alloc (.cells #[.slice ad x.length c] 22)) (some ⟨w.heap.size, 0, none⟩) [x] 1 :=
 have hA : Arr (w.alloc (.cells #[.slice ad x.length c] 22)) w.heap.size 22 [.slice ad x.length c] := Arr.made _ _ _
 ⟨[.slice ad x.length c], ⟨by simp, by unfold maxLen; decide, fun h => by (cases h), fun h0 => ⟨w.heap.size, 0, rfl, hA.lt, fun i v hv => by rw [Nat.zero_add, hA.cell]; exact hv⟩⟩,
  Els.one ⟨ad, c, rfl, hR.later ((Below.refl _ _).alloc (Nat.le_refl _) _)⟩⟩
theorem kmake_of (Z D : Array Value) (hZ : Z = (bytesV (List.replicate 64 0)).toArray) (hzs : ∀ w, Sem.run Tryz.prog (zeroValue 175) w = .ok (.agg Z) w) (hD : D = (bytesV (List.replicate 32 0)).toArray) (hds : ∀ w, Sem.run Tryz.prog (zeroValue 32) w = .ok (.agg D) w)
    (k : List UInt8) (o : Option Addr) (c : Nat) (w : World) (hR : RowIs w o (bytesV k) c) (hV : Cds w) (hl : k.length <= 900000) :
    Calls Tryz.prog 53 #[.slice o k.length c] w fun e w' => e = .returned (.pointer (some ⟨w.heap.size, 0, none⟩)) /\ Arr w' w.heap.size 175 (bytesV (Da.fil k)) /\ Below w.heap.size w w' := by
 obtain ⟨g, hg⟩ : ∃ g, w.heap.size = g := ⟨_, rfl⟩
 obtain ⟨W1, hW1⟩ : ∃ W1, w.alloc (Obj.cells Z 175) = W1 := ⟨_, rfl⟩
 have hb1 : Below w.heap.size w W1 := by rw [<- hW1]; exact (Below.refl _ _).alloc (Nat.le_refl _) _
 have hs1 : W1.heap.size = g + 1 := by rw [<- hW1, World.size_alloc, hg]
 have hA1 : Arr W1 g 175 (bytesV (List.replicate 64 0)) := by rw [<- hW1, hZ, <- hg]; exact Arr.made _ _ _
 have hR1 := hR.later hb1
 have hV1 := hV.later hb1
 have HW1 := Lh hW1
 have HB1 := Lh hb1
 have HS1 := Lh hs1
 have HA1 := Lh hA1
 have HG := Lh hg
 by_cases hlong : 64 < k.length
 ·have hd : decide ((k.length : Int) > 64) = true := by simp; omega
  have SO : Hid (Calls Tryz.prog 38 #[.slice (some ⟨W1.heap.size, 0, none⟩) 1 1] (W1.alloc (.cells #[.slice o k.length c] 22)) fun e w' => e = .returned (.agg (bytesV (Da.sha k)).toArray) /\ Below (W1.alloc (.cells #[.slice o k.length c] 22)).heap.size (W1.alloc (.cells #[.slice o k.length c] 22)) w') := Lh (by
   have := sof_any [k] (some ⟨W1.heap.size, 0, none⟩) 1 (W1.alloc (.cells #[.slice o k.length c] 22)) (one_part hR1) (hV1.later ((Below.refl _ _).alloc (Nat.le_refl _) _)) (by simpa using hl) (by simp)
   rw [show ([k] : List (List UInt8)).flatten = k by simp] at this
   exact this)
  have HC : Hid ([Value.slice o k.length c].toArray = #[Value.slice o k.length c]) := Lh rfl
  obtain ⟨W2, hW2⟩ : ∃ W2, W1.alloc (.cells #[.slice o k.length c] 22) = W2 := ⟨_, rfl⟩
  have HB2 : Hid (Below w.heap.size w W2) := Lh (Ks hb1 (by rw [<- hW2]; exact (Below.refl _ _).alloc (Nat.le_refl _) _))
  rw [hW2] at SO
  obtain ⟨F, hF⟩ : ∃ F, (bytesV (Da.sha k)).toArray = F := ⟨_, rfl⟩
  rw [hF] at SO
  have HRS : Hid ((Tryz.prog.info? 32).map (·.size) = some F.size) := Lh (by rw [dg_info, <- hF]; simp [Da.sha_length])
  have HRO : Hid (F.all (·.oneCell') = true) := Lh (by rw [<- hF]; exact all_oneCell_toArray (bytesV_one _))
  have HRZ : Hid (D.size = F.size) := Lh (by rw [hD, <- hF]; simp [Da.sha_length])
  have HF := Lh hF
  have HW2 := Lh hW2
  clear hR hV hW1 hb1 hs1 hA1 hR1 hV1 hZ hF hW2 hg
  go_enter Tryz.func53, Tryz.ntmps53
  go_upto_region 2 with fail
  rw [HW1.out, HG.out]
  have HD := Lh hD
  clear hD
  go_upto_region 3 with fail
  apply wp_region_lit
  iterate 2 (refine wpList_plain rfl (fun K hK => ?_); go_simp; refine hK _ _ ?_; clear hK K)
  rw [HW2.out]
  (refine wpList_plain rfl (fun K hK => ?_); go_simp)
  refine SO.out.mono ?_
  rintro e W3 ⟨rfl, hb3⟩
  refine hK _ _ ?_
  clear hK K
  obtain ⟨W4, hW4⟩ : ∃ W4, W3.alloc (.cells D 32) = W4 := ⟨_, rfl⟩
  obtain ⟨W5, hW5⟩ : ∃ W5, W4.setRow W3.heap.size F = W5 := ⟨_, rfl⟩
  have hA4 : Arr W4 W3.heap.size 32 D.toList := by rw [<- hW4]; exact Arr.made _ _ _
  have hA5 : Arr W5 W3.heap.size 32 (bytesV (Da.sha k)) := by rw [<- hW5, <- HF.out]; exact setRow_heap _ _ _ _ _ _ hA4
  have hb5 : Below W3.heap.size W3 W5 := by rw [<- hW5, <- hW4]; exact ((Below.refl _ _).alloc (Nat.le_refl _) _).trans (below_row (Nat.le_refl _))
  have hr3 : Below W1.heap.size W1 W3 := Ks (by rw [<- HW2.out]; exact (Below.refl _ _).alloc (Nat.le_refl _) _) hb3
  have hA1 : Arr W5 g 175 (bytesV (List.replicate 64 0)) := (HA1.out.later hr3 HA1.out.lt).later hb5 (Nat.lt_of_lt_of_le HA1.out.lt hr3.size)
  have hB5 : Below w.heap.size w W5 := Ks (Ks HB2.out hb3) hb5
  have HA4 : Hid (W4.heap[W3.heap.size]? = some (.cells D 32 (0, 0))) := Lh hA4
  have HA5 := Lh hA5
  have HA1 := Lh hA1
  have HB5 := Lh hB5
  have HW4 := Lh hW4
  have HW5 := Lh hW5
  clear hW4 hW5 hA4 hA5 hb5 hr3 hA1 hB5 hb3 SO
  (refine wpList_plain rfl (fun K hK => ?_); go_simp; refine hK _ _ ?_; clear hK K)
  rw [HW4.out]
  refine wpList_store_row rfl 32 (.tmp 4) (.tmp 10) rfl W3.heap.size F rfl rfl 32 D HA4.out HRS.out HRZ.out HRO.out ?_
  rw [HW5.out]
  go_upto_region 5 with fail
  apply wp_region_lit
  iterate 3 (refine wpList_plain rfl (fun K hK => ?_); go_simp; refine hK _ _ ?_; clear hK K)
  refine wpList_copy_splice rfl (.tmp 13) (.tmp 14) 22 22 rfl 5 (by kernel_rfl) (by kernel_rfl) (some ⟨g, 0, none⟩) (some ⟨W3.heap.size, 0, none⟩) 64 64 32 32 rfl rfl g 0 (bytesV (List.replicate 64 0)) 175 HA1.out (bytesV (Da.sha k)) (by simp [Da.sha_length])
   (fun _ => ⟨rfl, _, rfl, fun j v hv => by rw [Addr.add_mid, Nat.zero_add, HA5.out.cell]; exact hv⟩) (by simp [Da.sha_length]) (bytesV_one _) w.heap.size w HB5.out (Nat.le_of_eq HG.out) ?_
  intro w' h1 h2
  have hE : Arr w' g 175 (bytesV (Da.fil k)) := by
   have := h1.out
   rw [Da.fil_copy] at this
   unfold Da.fil
   rw [if_pos hlong]
   exact this
  have HE := Lh hE
  have HB6 := Lh h2
  clear hE h2 h1
  go_wp2_with fail
  go_ret
  exact ⟨by rw [HG.out]; rfl, by rw [HG.out]; exact HE.out, HB6.out⟩
 ·have hd : decide ((k.length : Int) > 64) = false := by simp; omega
  have HR1 := Lh hR1
  clear hR hV hW1 hb1 hs1 hA1 hR1 hV1 hZ hg
  go_enter Tryz.func53, Tryz.ntmps53
  go_upto_region 2 with fail
  rw [HW1.out, HG.out]
  go_upto_region 5 with fail
  apply wp_region_lit
  iterate 3 (refine wpList_plain rfl (fun K hK => ?_); go_simp; refine hK _ _ ?_; clear hK K)
  refine wpList_copy_splice rfl (.tmp 13) (.tmp 14) 22 22 rfl 5 (by kernel_rfl) (by kernel_rfl) (some ⟨g, 0, none⟩) o 64 64 k.length c rfl rfl g 0 (bytesV (List.replicate 64 0)) 175 HA1.out (bytesV k) (by rw [bytesV_length]; exact (Nat.min_eq_left (by omega)).symm)
   (fun h0 => ⟨rfl, by
    obtain ⟨b2, off2, e, hb2, hc2⟩ := HR1.out.cells h0
    exact ⟨_, e, fun j v hv => by rw [Addr.add_mid]; exact hc2 j v hv⟩⟩) (by simp; omega) (bytesV_one _) w.heap.size w HB1.out (Nat.le_of_eq HG.out) ?_
  intro w' h1 h2
  have hE : Arr w' g 175 (bytesV (Da.fil k)) := by
   have := h1.out
   rw [Da.fil_copy] at this
   unfold Da.fil
   rw [if_neg hlong]
   exact this
  have HE := Lh hE
  have HB6 := Lh h2
  clear hE h2 h1
  go_wp2_with fail
  go_ret
  exact ⟨by rw [HG.out]; rfl, by rw [HG.out]; exact HE.out, HB6.out⟩
theorem kmake_any (k : List UInt8) (o : Option Addr) (c : Nat) (w : World) (hR : RowIs w o (bytesV k) c) (hV : Cds w) (hl : k.length <= 900000) :
    Calls Tryz.prog 53 #[.slice o k.length c] w fun e w' => e = .returned (.pointer (some ⟨w.heap.size, 0, none⟩)) /\ Arr w' w.heap.size 175 (bytesV (Da.fil k)) /\ Below w.heap.size w w' :=
 kmake_of _ _ rfl key_built rfl dg_zero k o c w hR hV hl
def Wi1 (k : List UInt8) (x : UInt8) (w : World) (g : Nat) (i : Value) (wr : World) : Prop :=
 ∃ j : Nat, j <= 64 /\ i = .int .i64 j /\ Arr wr g 173 (bytesV (Da.xi k x j)) /\ Below w.heap.size w wr
theorem with_of (Z : Array Value) (hZ : Z = (bytesV (List.replicate 64 0)).toArray) (hzs : ∀ w, Sem.run Tryz.prog (zeroValue 173) w = .ok (.agg Z) w)
    (k : List UInt8) (hk : k.length = 64) (x : UInt8) (b : Nat) (w : World) (hA : Arr w b 175 (bytesV k)) :
    Calls Tryz.prog 155 #[.pointer (some ⟨b, 0, none⟩), .int .u8 x.toNat] w fun e w' => e = .returned (.slice (some ⟨w.heap.size, 0, none⟩) 64 64) /\ Arr w' w.heap.size 173 (bytesV (Da.xk k x)) /\ Below w.heap.size w w' := by
 obtain ⟨g, hg⟩ : ∃ g, w.heap.size = g := ⟨_, rfl⟩
 obtain ⟨F, hF⟩ : ∃ F, (bytesV k).toArray = F := ⟨_, rfl⟩
 obtain ⟨W1, hW1⟩ : ∃ W1, w.alloc (Obj.cells Z 173) = W1 := ⟨_, rfl⟩
 obtain ⟨W2, hW2⟩ : ∃ W2, W1.setRow g F = W2 := ⟨_, rfl⟩
 have hA1 : Arr W1 g 173 Z.toList := by rw [<- hW1, <- hg]; exact Arr.made _ _ _
 have hA2 : Arr W2 g 173 (bytesV (Da.xi k x 0)) := by rw [<- hW2, Da.xi_zero, <- hF]; exact setRow_heap _ _ _ _ _ _ hA1
 have hb2 : Below w.heap.size w W2 := by rw [<- hW2, <- hW1]; exact ((Below.refl _ _).alloc (Nat.le_refl _) _).trans (below_row (Nat.le_of_eq hg))
 have HLD : Hid (w.heap[b]? = some (.cells F 175 (0, 0))) := Lh (by rw [<- hF]; exact hA)
 have HSZ : Hid ((Tryz.prog.info? 173).map (·.size) = some F.size) := Lh (by rw [b64_info, <- hF]; simp [hk])
 have HST : Hid (W1.heap[g]? = some (.cells Z 173 (0, 0))) := Lh hA1
 have HOC : Hid (F.all (·.oneCell') = true) := Lh (by rw [<- hF]; exact all_oneCell_toArray (bytesV_one _))
 have HZS : Hid (Z.size = F.size) := Lh (by rw [hZ, <- hF]; simp [hk])
 have HA2 := Lh hA2
 have HB2 := Lh hb2
 have HW1 := Lh hW1
 have HW2 := Lh hW2
 have HG := Lh hg
 have HK := Lh hk
 clear hA1 hA2 hb2 hW1 hW2 hg hF hZ hA hk
 go_enter Tryz.func155, Tryz.ntmps155
 go_upto_region 1 with fail
 apply wp_region_lit
 iterate 3 (refine wpList_plain rfl (fun K hK => ?_); go_simp; refine hK _ _ ?_; clear hK K)
 refine wpList_load_row rfl 173 (.tmp 9) rfl b rfl 175 F (0, 0) _ HLD.out b64_under rfl HSZ.out ?_
 (refine wpList_plain rfl (fun K hK => ?_); go_simp; refine hK _ _ ?_; clear hK K)
 rw [HW1.out, HG.out]
 refine wpList_store_row rfl 173 (.tmp 5) (.tmp 10) rfl g F rfl rfl 173 Z HST.out HSZ.out HZS.out HOC.out ?_
 rw [HW2.out]
 go_wp2_with fail
 go_loopw [11] (fun i wr => Wi1 k x w g i wr) (fun i _ => 64 - (intOf i).toNat)
 case atStart => exact ⟨0, Nat.zero_le _, rfl, HA2.out, HB2.out⟩
 case round =>
  rename World => X1
  obtain ⟨j, hj, rfl, hA, hB⟩ := hrel
  by_cases hlt : j < 64
  ·have hd1 : decide ((j : Int) < 64) = true := by simp; omega
   have hc := hA.cell j
   have hf := hA.frozen j
   obtain ⟨y, hy⟩ : ∃ y, k.getD j 0 = y := ⟨_, rfl⟩
   have hst := Da.xi_step k x j (by rw [HK.out]; exact hlt)
   rw [bytesV_get _ _ (by rw [Da.xi_length, HK.out]; exact hlt), Da.xi_get _ _ _ (by rw [HK.out]; exact hlt), hy] at hc
   rw [hy] at hst
   have hX : Hid (bits .xor .u8 (y.toNat : Int) (x.toNat : Int) = ((y ^^^ x).toNat : Int)) := Lh (by
    rw [u8_xor_nat _ _ (UInt8.toNat_lt _) (UInt8.toNat_lt _), UInt8.toNat_xor])
   have hA' : Arr (X1.setCell ⟨g, j, none⟩ (.int .u8 ((y ^^^ x).toNat : Int))) g 173 (bytesV (Da.xi k x (j + 1))) := by
    have := hA.set j (.int .u8 ((y ^^^ x).toNat : Int))
    rw [bytesV_set', hst] at this
    exact this
   have hB' := hA.below hB (Nat.le_of_eq HG.out) j (.int .u8 ((y ^^^ x).toNat : Int))
   have HX : Hid (Wi1 k x w g (.int .i64 ((j : Int) + 1)) (X1.setCell ⟨g, j, none⟩ (.int .u8 ((y ^^^ x).toNat : Int)))) := Lh ⟨j + 1, by omega, by go_num, hA', hB'⟩
   clear hA hB hA' hB' hst hy
   go_wp2_with fail
   rw [hX.out]
   exact ⟨HX.out, by simp [intOf]; omega⟩
  ·obtain rfl : j = 64 := by omega
   have hE : Arr X1 g 173 (bytesV (Da.xk k x)) := by
    have := Da.xi_all k x
    rw [HK.out] at this
    rw [<- this]; exact hA
   have HE := Lh hE
   have HB := Lh hB
   clear hE hA hB
   go_wp2_with fail
   go_ret
   exact ⟨by rw [HG.out]; rfl, by rw [HG.out]; exact HE.out, HB.out⟩
theorem a64_zero (w : World) : Sem.run Tryz.prog (zeroValue 173) w = .ok (.agg (bytesV (List.replicate 64 0)).toArray) w := by kernel_rfl
theorem with_any (k : List UInt8) (hk : k.length = 64) (x : UInt8) (b : Nat) (w : World) (hA : Arr w b 175 (bytesV k)) :
    Calls Tryz.prog 155 #[.pointer (some ⟨b, 0, none⟩), .int .u8 x.toNat] w fun e w' => e = .returned (.slice (some ⟨w.heap.size, 0, none⟩) 64 64) /\ Arr w' w.heap.size 173 (bytesV (Da.xk k x)) /\ Below w.heap.size w w' :=
 with_of _ rfl a64_zero k hk x b w hA
theorem two_parts {w : World} {a1 a2 : Option Addr} {c1 c2 : Nat} {x y : List UInt8} (h1 : RowIs w a1 (bytesV x) c1) (h2 : RowIs w a2 (bytesV y) c2) :
    RbIs (w.alloc (.cells #[.slice a1 x.length c1, .slice a2 y.length c2] 22)) (some ⟨w.heap.size, 0, none⟩) [x, y] 2 :=
 have hA : Arr (w.alloc (.cells #[.slice a1 x.length c1, .slice a2 y.length c2] 22)) w.heap.size 22 [.slice a1 x.length c1, .slice a2 y.length c2] := Arr.made _ _ _
 have hb : Below w.heap.size w (w.alloc (.cells #[.slice a1 x.length c1, .slice a2 y.length c2] 22)) := (Below.refl _ _).alloc (Nat.le_refl _) _
 ⟨[.slice a1 x.length c1, .slice a2 y.length c2], ⟨by simp, by unfold maxLen; decide, fun h => by (cases h), fun h0 => ⟨w.heap.size, 0, rfl, hA.lt, fun i v hv => by rw [Nat.zero_add, hA.cell]; exact hv⟩⟩,
  (Els.one ⟨a1, c1, rfl, h1.later hb⟩).app (Els.one ⟨a2, c2, rfl, h2.later hb⟩)⟩
def Of2 (P : List UInt8) (bs : List (List UInt8)) (g : Nat) (w : World) (i : Value) (wr : World) : Prop :=
 ∃ n : Nat, n <= bs.length /\ i = .int .i64 n /\ Hash wr (g + 1) (P ++ (bs.take n).flatten) /\ Arr wr g 32 (bytesV (List.replicate 32 0)) /\ Below w.heap.size w wr
theorem kof_of (Z : Array Value) (hZ : Z = (bytesV (List.replicate 32 0)).toArray) (hzs : ∀ w, Sem.run Tryz.prog (zeroValue 32) w = .ok (.agg Z) w)
    (k : List UInt8) (hk : k.length = 64) (b : Nat) (bs : List (List UInt8)) (o : Option Addr) (c : Nat) (w : World) (hA : Arr w b 175 (bytesV k))
    (hR : RbIs w o bs c) (hV : Cds w) (hl : bs.flatten.length <= 800000) (hn : bs.length <= 1000000) :
    Calls Tryz.prog 131 #[.pointer (some ⟨b, 0, none⟩), .slice o bs.length c] w fun e w' => e = .returned (.agg (bytesV (Da.sha (Da.xk k 92 ++ Da.sha (Da.xk k 54 ++ bs.flatten)))).toArray) /\ Below w.heap.size w w' := by
 obtain ⟨g, hg⟩ : ∃ g, w.heap.size = g := ⟨_, rfl⟩
 obtain ⟨W1, hW1⟩ : ∃ W1, w.alloc (Obj.cells Z 32) = W1 := ⟨_, rfl⟩
 have hb1 : Below w.heap.size w W1 := by rw [<- hW1]; exact (Below.refl _ _).alloc (Nat.le_refl _) _
 have hs1 : W1.heap.size = g + 1 := by rw [<- hW1, World.size_alloc, hg]
 have hR1 : Arr W1 g 32 (bytesV (List.replicate 32 0)) := by rw [<- hW1, hZ, <- hg]; exact Arr.made _ _ _
 have HR := Lh hR
 have HA := Lh hA
 have HK := Lh hk
 have HV := Lh hV
 have HW1 := Lh hW1
 have HB1 := Lh hb1
 have HR1 := Lh hR1
 have HS1 := Lh hs1
 have HG := Lh hg
 have HZ := Lh hZ
 clear hR hV hW1 hb1 hs1 hR1 hg hZ hA hk
 obtain ⟨P, hP⟩ : ∃ P, Da.xk k 54 = P := ⟨_, rfl⟩
 have HPL : Hid (P.length = 64) := Lh (by rw [<- hP, Da.xk_length]; exact HK.out)
 have HP := Lh hP
 clear hP
 go_enter Tryz.func131, Tryz.ntmps131
 go_upto_region 1 with fail
 rw [HW1.out, HG.out]
 apply wp_region_lit
 (refine wpList_plain rfl (fun K hK => ?_); go_simp)
 refine (new_any W1).mono ?_
 rintro e W2 ⟨rfl, hh2, hb2, hs2⟩
 refine hK _ _ ?_
 clear hK K
 rw [HS1.out] at hh2 hs2 ⊢
 have HH2 := Lh hh2
 have HR2 : Hid (Arr W2 g 32 (bytesV (List.replicate 32 0))) := Lh (HR1.out.later hb2 HR1.out.lt)
 have HB2 : Hid (Below w.heap.size w W2) := Lh (Ks HB1.out hb2)
 have HS2 := Lh hs2
 clear hh2 hb2 hs2 HW1 HB1 HR1
 (refine wpList_plain rfl (fun K hK => ?_); go_simp; refine hK _ _ ?_; clear hK K)
 (refine wpList_plain rfl (fun K hK => ?_); go_simp)
 refine (with_any k HK.out 54 b W2 (HA.out.later HB2.out HA.out.lt)).mono ?_
 rintro e W3 ⟨rfl, hr3, hb3⟩
 refine hK _ _ ?_
 clear hK K
 rw [HP.out] at hr3
 have PU : Hid (Calls Tryz.prog 78 #[.pointer (some ⟨g + 1, 0, none⟩), .slice (some ⟨W2.heap.size, 0, none⟩) 64 64] W3 fun e w' => e = .returned (.pointer (some ⟨g + 1, 0, none⟩)) /\ Hash w' (g + 1) P /\ W3.grownBy w' (some (g + 1))) := Lh (by
  have hcd := (HV.out.later HB2.out).later hb3
  have hrow := hr3.row (by rw [HPL.out]; unfold maxLen; decide)
  rw [HPL.out] at hrow
  have := put_any (g + 1) [] P (some ⟨W2.heap.size, 0, none⟩) 64 W3 (HH2.out.kept (grown_below (B := 0) (row := none) hb3) (fun e => by cases e)) hrow (fun h0 ad e => by cases e; show W2.heap.size ≠ g + 1; rw [HS2.out]; omega) (HV.out.ne (by rw [HG.out]; omega)) hcd.cubes hcd.begins (by rw [HPL.out]; decide)
  rw [HPL.out] at this
  exact this)
 have HB3 : Hid (Below w.heap.size w W3) := Lh (Ks HB2.out hb3)
 have HR3 : Hid (Arr W3 g 32 (bytesV (List.replicate 32 0))) := Lh (HR2.out.later hb3 HR2.out.lt)
 clear hr3 hb3 HH2 HR2 HB2
 (refine wpList_plain rfl (fun K hK => ?_); go_simp)
 refine PU.out.mono ?_
 rintro e W4 ⟨rfl, hh, hgr⟩
 refine hK _ _ ?_
 clear hK K
 have HX : Hid (Of2 P bs g w (.int .i64 0) W4) := Lh ⟨0, Nat.zero_le _, rfl, by simpa using hh, HR3.out.kept hgr (fun e => by cases e), below_grown HB3.out hgr (by have := HG.out; omega) HB3.out.size⟩
 clear hh hgr PU HB3 HR3
 go_wp2_with fail
 go_loopw [15] (fun i wr => Of2 P bs g w i wr) (fun i _ => bs.length - (intOf i).toNat)
 case atStart => exact HX.out
 case round =>
  rename World => X1
  obtain ⟨n, hn', rfl, hH1, hR1, hB1⟩ := hrel
  by_cases hlt : n < bs.length
  ·have hd1 : decide ((n : Int) < (bs.length : Int)) = true := by simpa using hlt
   obtain ⟨b1, off1, p1, q1, rfl, hb1, hcell, hrow⟩ := (HR.out.later hB1).cell n hlt
   have hrw := HR.out.cell n hlt
   have PU : Hid (Calls Tryz.prog 78 #[.pointer (some ⟨g + 1, 0, none⟩), .slice p1 (bi bs n).length q1] X1 fun e w' => e = .returned (.pointer (some ⟨g + 1, 0, none⟩)) /\ Hash w' (g + 1) (P ++ (bs.take n).flatten ++ bi bs n) /\ X1.grownBy w' (some (g + 1))) := Lh (by
    have hcd := HV.out.later hB1
    refine put_any (g + 1) (P ++ (bs.take n).flatten) (bi bs n) p1 q1 X1 hH1 hrow (fun h0 ad e => ?_) (HV.out.ne (by have := HG.out; omega)) hcd.cubes hcd.begins ?_
    ·obtain ⟨b2, off2, p2, q2, e2, hb2, hcell2, hrow2⟩ := hrw
     cases e2
     rw [hB1.cell (p := ⟨b1, off1 + n, none⟩) hb2] at hcell
     rw [hcell] at hcell2
     cases hcell2
     obtain ⟨b3, off3, e3, hb3, _⟩ := hrow2.cells (by simpa using h0)
     rw [e] at e3
     cases e3
     show b3 ≠ g + 1
     have := HG.out; omega
    ·have := flat_step bs n hlt
     have h2 := flat_le bs (n + 1)
     rw [this, List.length_append] at h2
     rw [List.length_append, HPL.out]
     omega)
   have HFS : Hid (P ++ (bs.take (n + 1)).flatten = P ++ (bs.take n).flatten ++ bi bs n) := Lh (by rw [flat_step bs n hlt, List.append_assoc])
   have HH1 := Lh hH1
   have HR1 := Lh hR1
   have HB1 := Lh hB1
   clear hH1 hR1 hB1 hrow hrw
   go_wp2_with fail
   refine PU.out.mono ?_
   rintro e X2 ⟨rfl, hh, hgr⟩
   have HX : Hid (Of2 P bs g w (.int .i64 ((n : Int) + 1)) X2) := Lh ⟨n + 1, by omega, by go_num, by rw [HFS.out]; exact hh, HR1.out.kept hgr (fun e => by cases e), below_grown HB1.out hgr (by have := HG.out; omega) HB1.out.size⟩
   clear hh hgr PU
   go_wp2_with fail
   exact ⟨HX.out, by simp [intOf]; omega⟩
  ·obtain rfl : n = bs.length := by omega
   rw [List.take_length] at hH1
   obtain ⟨I, hI⟩ : ∃ I, Da.sha (P ++ bs.flatten) = I := ⟨_, rfl⟩
   have hIl : I.length = 32 := by rw [<- hI]; exact Da.sha_length _
   have SU : Hid (Calls Tryz.prog 79 #[.pointer (some ⟨g + 1, 0, none⟩)] X1 fun e w' => e = .returned (.agg (bytesV I).toArray) /\ Below X1.heap.size X1 w') := Lh (by
    rw [<- hI]
    exact hsum_any (g + 1) _ X1 hH1 (HV.out.later hB1) (by rw [List.length_append, HPL.out]; omega))
   obtain ⟨F, hF⟩ : ∃ F, (bytesV I).toArray = F := ⟨_, rfl⟩
   rw [hF] at SU
   have HRS : Hid ((Tryz.prog.info? 32).map (·.size) = some F.size) := Lh (by rw [dg_info, <- hF]; simp [hIl])
   have HRO : Hid (F.all (·.oneCell') = true) := Lh (by rw [<- hF]; exact all_oneCell_toArray (bytesV_one _))
   have HRZ : Hid (Z.size = F.size) := Lh (by rw [HZ.out, <- hF]; simp [hIl])
   have HF := Lh hF
   have HI := Lh hI
   have HIL := Lh hIl
   have HR1 := Lh hR1
   have HB1 := Lh hB1
   clear hH1 hR1 hB1 hF hI hIl HX
   go_upto_region 7 with fail
   apply wp_region_lit
   (refine wpList_plain rfl (fun K hK => ?_); go_simp; refine hK _ _ ?_; clear hK K)
   (refine wpList_plain rfl (fun K hK => ?_); go_simp)
   refine SU.out.mono ?_
   rintro e X2 ⟨rfl, hb⟩
   refine hK _ _ ?_
   clear hK K
   obtain ⟨X3, hX3⟩ : ∃ X3, X2.alloc (.cells Z 32) = X3 := ⟨_, rfl⟩
   obtain ⟨X4, hX4⟩ : ∃ X4, X3.setRow X2.heap.size F = X4 := ⟨_, rfl⟩
   have hA3 : Arr X3 X2.heap.size 32 Z.toList := by rw [<- hX3]; exact Arr.made _ _ _
   have hA4 : Arr X4 X2.heap.size 32 (bytesV I) := by rw [<- hX4, <- HF.out]; exact setRow_heap _ _ _ _ _ _ hA3
   have hb4 : Below X2.heap.size X2 X4 := by rw [<- hX4, <- hX3]; exact ((Below.refl _ _).alloc (Nat.le_refl _) _).trans (below_row (Nat.le_refl _))
   have hR4 := (HR1.out.later hb HR1.out.lt).later hb4 (Nat.lt_of_lt_of_le HR1.out.lt hb.size)
   have hB4 := Ks (Ks HB1.out hb) hb4
   have HA3 : Hid (X3.heap[X2.heap.size]? = some (.cells Z 32 (0, 0))) := Lh hA3
   have HA4 := Lh hA4
   have HR4 := Lh hR4
   have HB4 := Lh hB4
   have HX3 := Lh hX3
   have HX4 := Lh hX4
   clear hX3 hX4 hA3 hA4 hb4 hR4 hB4 hb SU HB1 HR1
   (refine wpList_plain rfl (fun K hK => ?_); go_simp; refine hK _ _ ?_; clear hK K)
   rw [HX3.out]
   refine wpList_store_row rfl 32 (.tmp 8) (.tmp 24) rfl X2.heap.size F rfl rfl 32 Z HA3.out HRS.out HRZ.out HRO.out ?_
   rw [HX4.out]
   go_upto_region 8 with fail
   have WI : Hid (Calls Tryz.prog 155 #[.pointer (some ⟨b, 0, none⟩), .int .u8 92] X4.drew fun e w' => e = .returned (.slice (some ⟨X4.heap.size, 0, none⟩) 64 64) /\ Arr w' X4.heap.size 173 (bytesV (Da.xk k 92)) /\ Below X4.drew.heap.size X4.drew w') :=
    Lh (with_any k HK.out 92 b X4.drew ((HA.out.later HB4.out HA.out.lt).drew))
   clear HX3 HX4
   refine wp_region_any (by kernel_rfl) ?_
   change wpAny _ _ _ _ _ _ _ (World.drew _)
   refine wpAny_take (i := 0) (v := ?va1) rfl (by kernel_rfl) (by kernel_rfl) (by kernel_rfl) (fun _ _ _ h => h) (Or.inl ⟨by rfl, ?ha1⟩) ?ra1
   case ha1 => (intro w; (go_simp <;> with_reducible rfl))
   refine wpAny_take (i := 2) (v := ?va2) rfl (by kernel_rfl) (by kernel_rfl) (by kernel_rfl) (fun _ _ _ h => h) (Or.inl ⟨by rfl, ?ha2⟩) ?ra2
   case ha2 => (intro w; (go_simp <;> with_reducible rfl))
   refine wpAny_ready (rs := [1]) (by kernel_rfl) (by simp) ?_
   refine AllReady.cons rfl (fun K hK => ?_) AllReady.nil
   go_simp
   refine WI.out.mono ?_
   rintro e X5 ⟨rfl, hr5, hb5⟩
   refine hK _ _ ?_
   clear hK K WI
   have hA5 : Arr X5 X2.heap.size 32 (bytesV I) := HA4.out.drew.later hb5 HA4.out.lt
   have hR5 : Arr X5 g 32 (bytesV (List.replicate 32 0)) := HR4.out.drew.later hb5 HR4.out.lt
   have hB5 : Below w.heap.size w X5 := Ks (Kit.dn HB4.out 1) hb5
   have hrow1 := hr5.row (by rw [Da.xk_length, HK.out]; unfold maxLen; decide)
   rw [Da.xk_length, HK.out] at hrow1
   have hrow2 := hA5.row (by rw [HIL.out]; unfold maxLen; decide)
   rw [HIL.out] at hrow2
   obtain ⟨X6, hX6⟩ : ∃ X6, X5.alloc (.cells #[.slice (some ⟨X4.heap.size, 0, none⟩) 64 64, .slice (some ⟨X2.heap.size, 0, none⟩) 32 32] 22) = X6 := ⟨_, rfl⟩
   have hR6 : RbIs X6 (some ⟨X5.heap.size, 0, none⟩) [Da.xk k 92, I] 2 := by
    have := two_parts hrow1 hrow2
    rw [Da.xk_length, HK.out, HIL.out, hX6] at this
    exact this
   have hb6 : Below X5.heap.size X5 X6 := by rw [<- hX6]; exact (Below.refl _ _).alloc (Nat.le_refl _) _
   have hB6 := Ks hB5 hb6
   have SO : Hid (Calls Tryz.prog 38 #[.slice (some ⟨X5.heap.size, 0, none⟩) 2 2] X6 fun e w' => e = .returned (.agg (bytesV (Da.sha (Da.xk k 92 ++ I))).toArray) /\ Below X6.heap.size X6 w') := Lh (by
    have := sof_any [Da.xk k 92, I] (some ⟨X5.heap.size, 0, none⟩) 2 X6 hR6 (HV.out.later hB6) (by simp [Da.xk_length, HK.out, HIL.out]) (by simp)
    rw [show ([Da.xk k 92, I] : List (List UInt8)).flatten = Da.xk k 92 ++ I by simp] at this
    exact this)
   have HX6 := Lh hX6
   have HR6 := Lh (hR5.later hb6 hR5.lt)
   have HB6 := Lh hB6
   clear hA5 hR5 hB5 hrow1 hrow2 hX6 hR6 hb6 hB6 hr5 hb5
   refine wpAny_ready (rs := [3]) (by kernel_rfl) (by simp) ?_
   refine AllReady.cons rfl (fun K hK => ?_) AllReady.nil
   go_simp
   rw [HX6.out]
   refine hK _ _ ?_
   clear hK K
   refine wpAny_ready (rs := [4]) (by kernel_rfl) (by simp) ?_
   refine AllReady.cons rfl (fun K hK => ?_) AllReady.nil
   go_simp
   obtain ⟨E, hE⟩ : ∃ E, (bytesV (Da.sha (Da.xk k 92 ++ I))).toArray = E := ⟨_, rfl⟩
   rw [hE] at SO
   have HES : Hid ((Tryz.prog.info? 32).map (·.size) = some E.size) := Lh (by rw [dg_info, <- hE]; simp [Da.sha_length])
   have HEO : Hid (E.all (·.oneCell') = true) := Lh (by rw [<- hE]; exact all_oneCell_toArray (bytesV_one _))
   have HEZ : Hid ((bytesV (List.replicate 32 0)).toArray.size = E.size) := Lh (by rw [<- hE]; simp [Da.sha_length])
   have HE := Lh hE
   clear hE
   refine SO.out.mono ?_
   rintro e X7 ⟨rfl, hb7⟩
   refine hK _ _ ?_
   clear hK K SO
   have hR7 := HR6.out.later hb7 HR6.out.lt
   have HL7 : Hid (X7.heap[g]? = some (.cells (bytesV (List.replicate 32 0)).toArray 32 (0, 0))) := Lh hR7
   have HGW : Hid ((X7.setRow g E).heap[g]? = some (.cells E 32 (0, 0))) := Lh (setRow_heap _ _ _ _ _ _ hR7)
   have HBW : Hid (Below w.heap.size w (X7.setRow g E)) := Lh ((Ks HB6.out hb7).trans (below_row (Nat.le_of_eq HG.out)))
   clear hb7 hR7
   refine wpAny_ready (rs := [5]) (by kernel_rfl) (by simp) ?_
   refine AllReady.cons rfl (fun K hK => ?_) AllReady.nil
   rw [if_pos (by rfl)]
   refine wp_store_row 32 (.tmp 4) (.tmp 29) rfl g E rfl rfl 32 (bytesV (List.replicate 32 0)).toArray HL7.out HES.out HEZ.out HEO.out (hK _ _ ?_)
   clear hK K
   refine wpAny_done (by kernel_rfl) ?_ _
   go_wp2_with fail
   refine bodyPost_ret (results_cell_row rfl _ _ g 32 E (0, 0) _ rfl HGW.out dg_under rfl HES.out) rfl ?_
   exact ⟨by rw [<- HE.out, <- HI.out, <- HP.out], HBW.out⟩
theorem kof_any (k : List UInt8) (hk : k.length = 64) (b : Nat) (bs : List (List UInt8)) (o : Option Addr) (c : Nat) (w : World) (hA : Arr w b 175 (bytesV k))
    (hR : RbIs w o bs c) (hV : Cds w) (hl : bs.flatten.length <= 800000) (hn : bs.length <= 1000000) :
    Calls Tryz.prog 131 #[.pointer (some ⟨b, 0, none⟩), .slice o bs.length c] w fun e w' => e = .returned (.agg (bytesV (Da.sha (Da.xk k 92 ++ Da.sha (Da.xk k 54 ++ bs.flatten)))).toArray) /\ Below w.heap.size w w' :=
 kof_of _ rfl dg_zero k hk b bs o c w hA hR hV hl hn
theorem kofh_any (k : List UInt8) (b : Nat) (bs : List (List UInt8)) (o : Option Addr) (c : Nat) (w : World) (hA : Arr w b 175 (bytesV (Da.fil k)))
    (hR : RbIs w o bs c) (hV : Cds w) (hl : bs.flatten.length <= 800000) (hn : bs.length <= 1000000) :
    Calls Tryz.prog 131 #[.pointer (some ⟨b, 0, none⟩), .slice o bs.length c] w fun e w' => e = .returned (.agg (bytesV (Da.hmac k bs.flatten)).toArray) /\ Below w.heap.size w w' :=
 kof_any _ (Da.fil_length k) b bs o c w hA hR hV hl hn
theorem a8_info : (Tryz.prog.info? 180).map (·.size) = some 8 := by kernel_rfl
theorem a8_under : Tryz.prog.underlying 180 = some (.array 8 5) := by kernel_rfl
theorem a8_zero (w : World) : Sem.run Tryz.prog (zeroValue 180) w = .ok (.agg (bytesV (List.replicate 8 0)).toArray) w := by kernel_rfl
theorem tag_of (Z Y : Array Value) (hZ : Z = (bytesV (List.replicate 32 0)).toArray) (hzs : ∀ w, Sem.run Tryz.prog (zeroValue 32) w = .ok (.agg Z) w) (hY : Y = (bytesV (List.replicate 8 0)).toArray) (hys : ∀ w, Sem.run Tryz.prog (zeroValue 180) w = .ok (.agg Y) w)
    (k : List UInt8) (b : Nat) (bs : List (List UInt8)) (o : Option Addr) (c : Nat) (w : World) (hA : Arr w b 175 (bytesV (Da.fil k)))
    (hR : RbIs w o bs c) (hV : Cds w) (hl : bs.flatten.length <= 800000) (hn : bs.length <= 1000000) :
    Calls Tryz.prog 99 #[.pointer (some ⟨b, 0, none⟩), .slice o bs.length c] w fun e w' =>
      ∃ g, e = .returned (.slice (some ⟨g, 0, none⟩) 8 8) /\ RowIs w' (some ⟨g, 0, none⟩) (bytesV ((Da.hmac k bs.flatten).take 8)) 8 /\ Below w.heap.size w w' := by
 have KO := Lh (kofh_any k b bs o c w hA hR hV hl hn)
 obtain ⟨h, hh⟩ : ∃ h, Da.hmac k bs.flatten = h := ⟨_, rfl⟩
 have hhl : h.length = 32 := by rw [<- hh]; exact Da.hmac_length _ _
 obtain ⟨E, hE⟩ : ∃ E, (bytesV h).toArray = E := ⟨_, rfl⟩
 obtain ⟨T, hT⟩ : ∃ T, (bytesV (h.take 8)).toArray = T := ⟨_, rfl⟩
 have HES : Hid ((Tryz.prog.info? 32).map (·.size) = some E.size) := Lh (by rw [dg_info, <- hE]; simp [hhl])
 have HEO : Hid (E.all (·.oneCell') = true) := Lh (by rw [<- hE]; exact all_oneCell_toArray (bytesV_one _))
 have HEZ : Hid (Z.size = E.size) := Lh (by rw [hZ, <- hE]; simp [hhl])
 have HTS : Hid ((Tryz.prog.info? 180).map (·.size) = some T.size) := Lh (by rw [a8_info, <- hT]; simp [hhl])
 have HTS2 : Hid ((Tryz.prog.info? 180).map (·.size) = some (bytesV (h.take 8)).length) := Lh (by rw [a8_info]; simp [hhl])
 have HTO : Hid (T.all (·.oneCell') = true) := Lh (by rw [<- hT]; exact all_oneCell_toArray (bytesV_one _))
 have HTZ : Hid (Y.size = T.size) := Lh (by rw [hY, <- hT]; simp [hhl])
 rw [hh, hE] at KO
 have HE := Lh hE
 have HT := Lh hT
 have HHL := Lh hhl
 have HH := Lh hh
 rw [hh]
 clear hR hV hE hT hhl hZ hY hA hh
 go_enter Tryz.func99, Tryz.ntmps99
 go_upto_region 1 with fail
 apply wp_region_lit
 iterate 2 (refine wpList_plain rfl (fun K hK => ?_); go_simp; refine hK _ _ ?_; clear hK K)
 (refine wpList_plain rfl (fun K hK => ?_); go_simp)
 refine KO.out.mono ?_
 rintro e W1 ⟨rfl, hb1⟩
 refine hK _ _ ?_
 clear hK K KO
 obtain ⟨W2, hW2⟩ : ∃ W2, W1.alloc (.cells Z 32) = W2 := ⟨_, rfl⟩
 obtain ⟨W3, hW3⟩ : ∃ W3, W2.setRow W1.heap.size E = W3 := ⟨_, rfl⟩
 have hA2 : Arr W2 W1.heap.size 32 Z.toList := by rw [<- hW2]; exact Arr.made _ _ _
 have hA3 : Arr W3 W1.heap.size 32 (bytesV h) := by rw [<- hW3, <- HE.out]; exact setRow_heap _ _ _ _ _ _ hA2
 have hb3 : Below W1.heap.size W1 W3 := by rw [<- hW3, <- hW2]; exact ((Below.refl _ _).alloc (Nat.le_refl _) _).trans (below_row (Nat.le_refl _))
 have hB3 := Ks hb1 hb3
 have HA2 : Hid (W2.heap[W1.heap.size]? = some (.cells Z 32 (0, 0))) := Lh hA2
 have HRA : Hid (W3.rangeAt W1.heap.size 0 (bytesV (h.take 8))) := Lh (hA3.range 0 _ fun j v hv => by
  rw [Nat.zero_add]
  rw [<- hv]
  have hj : j < (h.take 8).length := by have := (List.getElem?_eq_some_iff.1 hv).1; rwa [bytesV_length] at this
  unfold bytesV
  rw [List.getElem?_map, List.getElem?_map, List.getElem?_take, if_pos (by rw [List.length_take] at hj; omega)])
 have HB3 := Lh hB3
 have HW2 := Lh hW2
 have HW3 := Lh hW3
 clear hW2 hW3 hA2 hA3 hb3 hB3 hb1
 (refine wpList_plain rfl (fun K hK => ?_); go_simp; refine hK _ _ ?_; clear hK K)
 rw [HW2.out]
 refine wpList_store_row rfl 32 (.tmp 5) (.tmp 9) rfl W1.heap.size E rfl rfl 32 Z HA2.out HES.out HEZ.out HEO.out ?_
 rw [HW3.out]
 clear HW2 HW3 HA2
 go_upto_region 2 with fail
 apply wp_region_lit
 iterate 2 (refine wpList_plain rfl (fun K hK => ?_); go_simp; refine hK _ _ ?_; clear hK K)
 refine wpList_load_mid rfl 180 (.tmp 11) rfl W1.heap.size 0 rfl (bytesV (h.take 8)) _ HRA.out a8_under rfl HTS2.out ?_
 rw [HT.out]
 obtain ⟨W4, hW4⟩ : ∃ W4, W3.alloc (.cells Y 180) = W4 := ⟨_, rfl⟩
 obtain ⟨W5, hW5⟩ : ∃ W5, W4.setRow W3.heap.size T = W5 := ⟨_, rfl⟩
 have hA4 : Arr W4 W3.heap.size 180 Y.toList := by rw [<- hW4]; exact Arr.made _ _ _
 have hA5 : Arr W5 W3.heap.size 180 (bytesV (h.take 8)) := by rw [<- hW5, <- HT.out]; exact setRow_heap _ _ _ _ _ _ hA4
 have hb5 : Below W3.heap.size W3 W5 := by rw [<- hW5, <- hW4]; exact ((Below.refl _ _).alloc (Nat.le_refl _) _).trans (below_row (Nat.le_refl _))
 have HA4 : Hid (W4.heap[W3.heap.size]? = some (.cells Y 180 (0, 0))) := Lh hA4
 have hrow := hA5.row (by rw [List.length_take, HHL.out]; unfold maxLen; decide)
 rw [show (h.take 8).length = 8 by rw [List.length_take, HHL.out]; rfl] at hrow
 have HROW := Lh hrow
 have HB5 := Lh (Ks HB3.out hb5)
 have HW4 := Lh hW4
 have HW5 := Lh hW5
 clear hW4 hW5 hA4 hA5 hb5 hrow
 (refine wpList_plain rfl (fun K hK => ?_); go_simp; refine hK _ _ ?_; clear hK K)
 rw [HW4.out]
 refine wpList_store_row rfl 180 (.tmp 6) (.tmp 12) rfl W3.heap.size T rfl rfl 180 Y HA4.out HTS.out HTZ.out HTO.out ?_
 rw [HW5.out]
 go_wp2_with fail
 go_ret
 exact ⟨_, rfl, HROW.out, HB5.out⟩
theorem tag_any (k : List UInt8) (b : Nat) (bs : List (List UInt8)) (o : Option Addr) (c : Nat) (w : World) (hA : Arr w b 175 (bytesV (Da.fil k)))
    (hR : RbIs w o bs c) (hV : Cds w) (hl : bs.flatten.length <= 800000) (hn : bs.length <= 1000000) :
    Calls Tryz.prog 99 #[.pointer (some ⟨b, 0, none⟩), .slice o bs.length c] w fun e w' =>
      ∃ g, e = .returned (.slice (some ⟨g, 0, none⟩) 8 8) /\ RowIs w' (some ⟨g, 0, none⟩) (bytesV ((Da.hmac k bs.flatten).take 8)) 8 /\ Below w.heap.size w w' :=
 tag_of _ _ rfl dg_zero rfl a8_zero k b bs o c w hA hR hV hl hn
end Go.Proofs.YtffheegeaghfjaaGreatDoor
