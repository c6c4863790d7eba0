/- keysOf and the closure that it makes; Key. -/
import Derived.Test.YtemngcifeglpmaaDoorLb
import Derived.Test.YtemngcifeglpmaaDoorTm
import Derived.Lib.ConvBytes
namespace Go.Proofs.YtemngcifeglpmaaDoor
open Go.RowKit
set_option linter.unusedVariables false
set_option linter.unusedSimpArgs false
/-- what the closure holds -/
structure KO (k : List UInt8) (n : Int) (b : Nat) (W : World) : Prop where
  key : ∃ p, Arr W b 59 [.pointer (some ⟨p, 0, none⟩)] ∧ Arr W p 70 (bytesV (Da.fil k))
  num : ∃ q, Arr W (b + 1) 22 [.slice (some ⟨q, 0, none⟩) 8 8] ∧ Arr W q 54 (bytesV (Da.num8 n))
theorem KO.later {k : List UInt8} {n : Int} {b : Nat} {W W' : World} (h : KO k n b W) (hb : Below W.heap.size W W') : KO k n b W' := by
  obtain ⟨⟨p, h1, h2⟩, ⟨q, h3, h4⟩⟩ := h
  exact ⟨⟨p, h1.later hb h1.lt, h2.later hb h2.lt⟩, ⟨q, h3.later hb h3.lt, h4.later hb h4.lt⟩⟩
set_option maxRecDepth 100000 in
theorem keysof_any (k : List UInt8) (o : Option Addr) (c : Nat) (n : Int) (w : World) (hR : RowIs w o (bytesV k) c) (hV : Cds w) (hl : k.length ≤ 900000) :
    Calls Tryd.prog 21 #[.slice o k.length c, .int .i64 n] w fun e w' => ∃ b, e = .returned (.func (.func 27) #[] #[.pointer (some ⟨b, 0, none⟩), .pointer (some ⟨b + 1, 0, none⟩)]) ∧ KO k n b w' ∧ Below w.heap.size w w' := by
  have hmf := @makes Tryd.prog
  have KM := Lib.hid (kmake_any k o c w hR hV hl)
  clear hR hV
  go_enter Tryd.func21, Tryd.ntmps21
  go_wp2_with fail
  refine KM.out.mono ?_
  rintro e W1 ⟨rfl, hk, hb1⟩
  obtain ⟨p, hp⟩ : ∃ p, w.heap.size = p := ⟨_, rfl⟩
  rw [hp] at hk
  have HK := Lib.hid hk
  have HB1 := Lib.hid hb1
  have HP := Lib.hid hp
  rw [hp]
  clear hk hb1 KM hp
  go_wp2_with fail
  refine (lnum_any n W1).mono ?_
  rintro e W2 ⟨rfl, hn, hb2⟩
  have HB2 := Lib.hid (Kit.step HB1.out hb2)
  have HK2 := Lib.hid (HK.out.later hb2 HK.out.lt)
  have HN := Lib.hid hn
  obtain ⟨q, hq⟩ : ∃ q, W1.heap.size = q := ⟨_, rfl⟩
  rw [hq] at HN ⊢
  clear hn hb2 HK HB1 hq
  go_wp2_with fail
  go_ret
  have hA1 : Arr (W2.alloc (.cells #[.pointer (some ⟨p, 0, none⟩)] 59)) W2.heap.size 59 [.pointer (some ⟨p, 0, none⟩)] := Arr.made _ _ _
  have hA2 : Arr ((W2.alloc (.cells #[.pointer (some ⟨p, 0, none⟩)] 59)).alloc (.cells #[.slice (some ⟨q, 0, none⟩) 8 8] 22)) (W2.alloc (.cells #[.pointer (some ⟨p, 0, none⟩)] 59)).heap.size 22 [.slice (some ⟨q, 0, none⟩) 8 8] := Arr.made _ _ _
  rw [World.size_alloc] at hA2
  refine ⟨_, rfl, ⟨⟨p, hA1.alloc _, (HK2.out.alloc _).alloc _⟩, ⟨q, hA2, (HN.out.alloc _).alloc _⟩⟩, ?_⟩
  exact (HB2.out.alloc HB2.out.size _).alloc (by rw [World.size_alloc]; have := HB2.out.size; omega) _
theorem three_parts {w : World} {a1 a2 a3 : Option Addr} {c1 c2 c3 : Nat} {x y z : List UInt8} (h1 : RowIs w a1 (bytesV x) c1) (h2 : RowIs w a2 (bytesV y) c2) (h3 : RowIs w a3 (bytesV z) c3) :
    RbIs (w.alloc (.cells #[.slice a1 x.length c1, .slice a2 y.length c2, .slice a3 z.length c3] 22)) (some ⟨w.heap.size, 0, none⟩) [x, y, z] 3 :=
  have hA : Arr (w.alloc (.cells #[.slice a1 x.length c1, .slice a2 y.length c2, .slice a3 z.length c3] 22)) w.heap.size 22 [.slice a1 x.length c1, .slice a2 y.length c2, .slice a3 z.length c3] := Arr.made _ _ _
  have hb : Below w.heap.size w (w.alloc (.cells #[.slice a1 x.length c1, .slice a2 y.length c2, .slice a3 z.length c3] 22)) := (Below.refl _ _).alloc (Nat.le_refl _) _
  ⟨[.slice a1 x.length c1, .slice a2 y.length c2, .slice a3 z.length c3], ⟨by simp, by unfold maxLen; decide, fun h => by (cases h), fun h0 => ⟨w.heap.size, 0, rfl, hA.lt, fun i v hv => by rw [Nat.zero_add, hA.cell]; exact hv⟩⟩,
    ((Els.one ⟨a1, c1, rfl, h1.later hb⟩).app (Els.one ⟨a2, c2, rfl, h2.later hb⟩)).app (Els.one ⟨a3, c3, rfl, h3.later hb⟩)⟩
/-- a text as bytes: a new row -/
theorem conv_row (w : World) (s : ByteArray) (hl : s.size ≤ 1000000) :
    ∃ c, (convert 9 22 (.string s)).run Tryd.prog w = .ok (.slice (some ⟨w.heap.size, 0, none⟩) s.size c) (Lib.bytesWorld w 5 s) ∧
      RowIs (Lib.bytesWorld w 5 s) (some ⟨w.heap.size, 0, none⟩) (bytesV s.data.toList) c ∧ Below w.heap.size w (Lib.bytesWorld w 5 s) := by
  have hsl : s.data.toList.length = s.size := rfl
  have h1 := grownCap_ge w s.size 0 5
  have h2 := grownCap_le_maxLen w s.size 0 5 (by unfold maxLen; omega)
  refine ⟨_, Lib.run_convert_string_bytes w _ _ 5 s Tryd.underlying9 Tryd.underlying22 Tryd.underlying5, ⟨by rw [bytesV_length, hsl]; exact h1, h2, fun h => by (cases h), fun h0 => ⟨w.heap.size, 0, rfl, by rw [Lib.bytesWorld_size]; omega, fun i v hv => ?_⟩⟩, Joins.below_bytesWorld _ _ _ _ (Nat.le_refl _)⟩
  have hi : i < s.size := by have := (List.getElem?_eq_some_iff.1 hv).1; rwa [bytesV_length, hsl] at this
  rw [Nat.zero_add, Lib.bytesWorld_cell w _ s i hi, ← hv]
  exact (bytesV_get _ _ hi).symm
set_option maxRecDepth 100000 in
set_option maxHeartbeats 1000000 in
theorem ko1_of (Z : Array Value) (hZ : Z = (bytesV (List.replicate 32 0)).toArray) (hzs : ∀ w, Sem.run Tryd.prog (zeroValue 61) w = .ok (.agg Z) w) (k : List UInt8) (n : Int) (b : Nat) (s : ByteArray) (hs : s.size ≤ 1000) (w : World) (hO : KO k n b w) (hV : Cds w) :
    Calls Tryd.prog 27 #[.string s, .pointer (some ⟨b, 0, none⟩), .pointer (some ⟨b + 1, 0, none⟩)] w fun e w' => ∃ g, e = .returned (.slice (some ⟨g, 0, none⟩) 32 32) ∧ w.heap.size ≤ g ∧ Arr w' g 61 (bytesV (Da.keyL k s.data.toList n)) ∧ Below w.heap.size w w' := by
  obtain ⟨⟨p, hk1, hk2⟩, ⟨q, hn1, hn2⟩⟩ := hO
  obtain ⟨c, hcv, hrow, hb1⟩ := conv_row w s (by omega)
  obtain ⟨W1, hW1⟩ : ∃ W1, Lib.bytesWorld w 5 s = W1 := ⟨_, rfl⟩
  rw [hW1] at hcv hrow hb1
  obtain ⟨W2, hW2⟩ : ∃ W2, W1.alloc (.cells #[.int .u8 0] 5) = W2 := ⟨_, rfl⟩
  have hb2 : Below W1.heap.size W1 W2 := by rw [← hW2]; exact (Below.refl _ _).alloc (Nat.le_refl _) _
  have hr2 : RowIs W2 (some ⟨W1.heap.size, 0, none⟩) (bytesV [0]) 1 := by
    rw [← hW2]
    exact Arr.row (z := [0]) (Arr.made _ _ _) (by unfold maxLen; decide)
  have hB2 := Kit.step hb1 hb2
  have hq2 := (hn1.later hB2 hn1.lt).cell 0
  have hrn := (hn2.later hB2 hn2.lt).row (by rw [Da.num8_length]; unfold maxLen; decide)
  rw [Da.num8_length] at hrn
  obtain ⟨W3, hW3⟩ : ∃ W3, W2.alloc (.cells #[.slice (some ⟨w.heap.size, 0, none⟩) s.size c, .slice (some ⟨W1.heap.size, 0, none⟩) 1 1, .slice (some ⟨q, 0, none⟩) 8 8] 22) = W3 := ⟨_, rfl⟩
  have hb3 : Below W2.heap.size W2 W3 := by rw [← hW3]; exact (Below.refl _ _).alloc (Nat.le_refl _) _
  have hB3 := Kit.step hB2 hb3
  have hR3 : RbIs W3 (some ⟨W2.heap.size, 0, none⟩) [s.data.toList, [0], Da.num8 n] 3 := by
    have := three_parts (hrow.later hb2) hr2 hrn
    rw [Da.num8_length, show s.data.toList.length = s.size from rfl, show ([0] : List UInt8).length = 1 from rfl, hW3] at this
    exact this
  have KO1 := kofh_any k p [s.data.toList, [0], Da.num8 n] (some ⟨W2.heap.size, 0, none⟩) 3 W3 (hk2.later hB3 hk2.lt) hR3 (hV.later hB3) (by simp [Da.num8_length]; omega) (by simp)
  rw [show ([s.data.toList, [0], Da.num8 n] : List (List UInt8)).flatten = s.data.toList ++ 0 :: Da.num8 n by simp, show Da.hmac k (s.data.toList ++ 0 :: Da.num8 n) = Da.keyL k s.data.toList n from rfl] at KO1
  obtain ⟨h, hh⟩ : ∃ h, Da.keyL k s.data.toList n = h := ⟨_, rfl⟩
  have hhl : h.length = 32 := by rw [← hh]; exact Da.keyL_length _ _ _
  obtain ⟨E, hE⟩ : ∃ E, (bytesV h).toArray = E := ⟨_, rfl⟩
  rw [hh, hE] at KO1
  have HKO := Lib.hid KO1
  have HES : Hid ((Tryd.prog.info? 61).map (·.size) = some E.size) := Lib.hid (by rw [dg_info, ← hE]; simp [hhl])
  have HEO : Hid (E.all (·.oneCell') = true) := Lib.hid (by rw [← hE]; exact all_oneCell_toArray (bytesV_one _))
  have HEZ : Hid (Z.size = E.size) := Lib.hid (by rw [hZ, ← hE]; simp [hhl])
  have hc1 : w.cell? ⟨b, 0, none⟩ = some (.pointer (some ⟨p, 0, none⟩)) := hk1.cell 0
  have hc2 : W2.cell? ⟨b + 1, 0, none⟩ = some (.slice (some ⟨q, 0, none⟩) 8 8) := hq2
  have HB3 := Lib.hid hB3
  have HW1 := Lib.hid hW1
  have HW2 := Lib.hid hW2
  have HW3 := Lib.hid hW3
  have HE := Lib.hid hE
  have HCV := Lib.hid hcv
  rw [hh]
  clear hk1 hk2 hn1 hn2 hrow hb1 hW1 hW2 hW3 hb2 hr2 hB2 hq2 hrn hb3 hB3 hR3 KO1 hE hhl hZ hV hcv hh
  go_enter Tryd.func27, Tryd.ntmps27
  go_upto_region 1 with fail
  apply wp_region_lit
  (refine wpList_plain rfl (fun K hK => ?_); go_simp; refine hK _ _ ?_; clear hK K)
  (refine wpList_plain rfl (fun K hK => ?_); go_simp; refine hK _ _ ?_; clear hK K)
  (refine wpList_plain rfl (fun K hK => ?_); have hcv := HCV.out; go_simp; refine hK _ _ ?_; clear hK K hcv)
  (refine wpList_plain rfl (fun K hK => ?_); go_simp; refine hK _ _ ?_; clear hK K)
  rw [HW2.out]
  (refine wpList_plain rfl (fun K hK => ?_); go_simp; refine hK _ _ ?_; clear hK K)
  (refine wpList_plain rfl (fun K hK => ?_); go_simp; refine hK _ _ ?_; clear hK K)
  rw [HW3.out]
  (refine wpList_plain rfl (fun K hK => ?_); go_simp)
  refine HKO.out.mono ?_
  rintro e W4 ⟨rfl, hb4⟩
  refine hK _ _ ?_
  clear hK K HKO
  obtain ⟨W5, hW5⟩ : ∃ W5, W4.alloc (.cells Z 61) = W5 := ⟨_, rfl⟩
  obtain ⟨W6, hW6⟩ : ∃ W6, W5.setRow W4.heap.size E = W6 := ⟨_, rfl⟩
  have hA5 : Arr W5 W4.heap.size 61 Z.toList := by rw [← hW5]; exact Arr.made _ _ _
  have hA6 : Arr W6 W4.heap.size 61 (bytesV h) := by rw [← hW6, ← HE.out]; exact setRow_heap _ _ _ _ _ _ hA5
  have hb6 : Below W4.heap.size W4 W6 := by rw [← hW6, ← hW5]; exact ((Below.refl _ _).alloc (Nat.le_refl _) _).trans (below_row (Nat.le_refl _))
  have HA5 : Hid (W5.heap[W4.heap.size]? = some (.cells Z 61 (0, 0))) := Lib.hid hA5
  have HA6 := Lib.hid hA6
  have HLE : Hid (w.heap.size ≤ W4.heap.size) := Lib.hid (Kit.step HB3.out hb4).size
  have HB6 := Lib.hid (Kit.step (Kit.step HB3.out hb4) hb6)
  have HW5 := Lib.hid hW5
  have HW6 := Lib.hid hW6
  clear hW5 hW6 hA5 hA6 hb6 hb4
  (refine wpList_plain rfl (fun K hK => ?_); go_simp; refine hK _ _ ?_; clear hK K)
  rw [HW5.out]
  refine wpList_store_row rfl 61 (.tmp 5) (.tmp 12) rfl W4.heap.size E rfl rfl 61 Z HA5.out HES.out HEZ.out HEO.out ?_
  rw [HW6.out]
  go_wp2_with fail
  go_ret
  exact ⟨_, rfl, HLE.out, HA6.out, HB6.out⟩
theorem ko1_any (k : List UInt8) (n : Int) (b : Nat) (s : ByteArray) (hs : s.size ≤ 1000) (w : World) (hO : KO k n b w) (hV : Cds w) :
    Calls Tryd.prog 27 #[.string s, .pointer (some ⟨b, 0, none⟩), .pointer (some ⟨b + 1, 0, none⟩)] w fun e w' => ∃ g, e = .returned (.slice (some ⟨g, 0, none⟩) 32 32) ∧ w.heap.size ≤ g ∧ Arr w' g 61 (bytesV (Da.keyL k s.data.toList n)) ∧ Below w.heap.size w w' :=
  ko1_of _ rfl dg_zero k n b s hs w hO hV
end Go.Proofs.YtemngcifeglpmaaDoor
