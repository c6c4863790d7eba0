/- Macs: the document's Of and Tag. -/
import Derived.Test.YtgpojlblhaphnaaDoorMac
import Derived.Test.YtgpojlblhaphnaaDoorHp
import Derived.Test.YtgpojlblhaphnaaDoorApa
namespace Go.Proofs.YtgpojlblhaphnaaDoor.Da
theorem xk_step (F : List UInt8) (x : UInt8) (j : Nat) (h : j < F.length) : xk (F.take (j + 1)) x = xk (F.take j) x ++ [F.getD j 0 ^^^ x] := by
  rw [List.take_add_one, List.getElem?_eq_getElem h]
  simp only [xk, List.map_append]
  simp only [Option.toList_some, List.map_cons, List.map_nil, List.getD_eq_getElem?_getD, List.getElem?_eq_getElem h, Option.getD_some]
end Go.Proofs.YtgpojlblhaphnaaDoor.Da
namespace Go.Proofs.YtgpojlblhaphnaaDoor
open Go.RowKit
set_option linter.unusedVariables false
set_option linter.unusedSimpArgs false
structure Tw (X wr : World) (va vb : Value) (na nb : Nat) (A B : List UInt8) : Prop where
  a : wr.ownsRow X.heap.size 5 1 va na (bytesV A)
  b : wr.ownsRow X.heap.size 5 1 vb nb (bytesV B)
  ap : ∃ p q, va.ownBlock = some p ∧ vb.ownBlock = some q ∧ p ≠ q
  below : Below X.heap.size X wr
theorem Tw.swap {X wr : World} {va vb : Value} {na nb : Nat} {A B : List UInt8} (h : Tw X wr va vb na nb A B) : Tw X wr vb va nb na B A :=
  ⟨h.b, h.a, by obtain ⟨p, q, h1, h2, h3⟩ := h.ap; exact ⟨q, p, h2, h1, fun e => h3 e.symm⟩, h.below⟩
theorem Tw.later {X wr w' : World} {va vb : Value} {na nb : Nat} {A B : List UInt8} (h : Tw X wr va vb na nb A B) (hb : Below wr.heap.size wr w') : Tw X w' va vb na nb A B := by
  have hg : wr.grownBy w' none := grown_below (B := 0) hb
  obtain ⟨p, q, h1, h2, h3⟩ := h.ap
  exact ⟨own_kept h.a hg (.inr (by rw [h1]; simp)), own_kept h.b hg (.inr (by rw [h2]; simp)), h.ap, Kit.step h.below hb⟩
theorem Tw.alloc {X wr : World} {va vb : Value} {na nb : Nat} {A B : List UInt8} (h : Tw X wr va vb na nb A B) (o : Obj) : Tw X (wr.alloc o) va vb na nb A B :=
  h.later ((Below.refl _ _).alloc (Nat.le_refl _) o)
theorem Tw.app {X wr w' : World} {va vb v' : Value} {na nb na' : Nat} {A B A' : List UInt8} (h : Tw X wr va vb na nb A B) (hv : w'.ownsRow X.heap.size 5 1 v' na' (bytesV A'))
    (hg : wr.grownBy w' va.ownBlock) (hat : v'.ownBlock = va.ownBlock ∨ v'.ownBlock = some wr.heap.size) : Tw X w' v' vb na' nb A' B := by
  obtain ⟨p, q, h1, h2, h3⟩ := h.ap
  refine ⟨hv, own_kept h.b hg (.inr (by rw [h1, h2]; exact fun e => h3 (Option.some.inj e).symm)), ?_, own_below (n := 0) h.below h.a hg⟩
  rcases hat with e | e
  · exact ⟨p, q, e.trans h1, h2, h3⟩
  · exact ⟨_, q, e, h2, fun e2 => by have := (World.ownsRow.lt h.b q h2).2; omega⟩
def Mr2 (F : List UInt8) (X : World) (va vb i : Value) (wr : World) : Prop :=
  ∃ j : Nat, j ≤ 64 ∧ i = .int .i64 j ∧ Tw X wr va vb j j (Da.xk (F.take j) 54) (Da.xk (F.take j) 92)
def Mr1 (S : List UInt8) (W : World) (v : Value) (wr : World) : Prop :=
  ∃ d L : Nat, L = S.length + d ∧ L ≤ 64 ∧ wr.ownsRow W.heap.size 5 1 v L (bytesV (S ++ List.replicate d 0)) ∧ Below W.heap.size W wr
set_option maxRecDepth 100000 in
set_option maxHeartbeats 4000000 in
theorem rmac_of (Z : Array Value) (hZ : Z = (bytesV (List.replicate 32 0)).toArray) (hzs : ∀ w, Sem.run Tryd.prog (zeroValue 51) w = .ok (.agg Z) w)
    (k m : List UInt8) (ok om : Option Addr) (ck cm : Nat) (w : World) (hK : RowIs w ok (bytesV k) ck) (hM : RowIs w om (bytesV m) cm) (hV : Rds w) (hkl : k.length ≤ 90000) (hml : m.length ≤ 90000) :
    Calls Tryd.prog 26 #[.slice ok k.length ck, .slice om m.length cm] w fun e w' => e = .returned (.agg (bytesV (Da.hmac k m)).toArray) ∧ Below w.heap.size w w' := by
  obtain ⟨g0, hg⟩ : ∃ g, w.heap.size = g := ⟨_, rfl⟩
  obtain ⟨W1, hW1⟩ : ∃ W1, w.alloc (Obj.cells Z 51) = W1 := ⟨_, rfl⟩
  have hb1 : Below w.heap.size w W1 := by rw [← hW1]; exact (Below.refl _ _).alloc (Nat.le_refl _) _
  have hs1 : W1.heap.size = g0 + 1 := by rw [← hW1, World.size_alloc, hg]
  have hR1 : Arr W1 g0 51 (bytesV (List.replicate 32 0)) := by rw [← hW1, hZ, ← hg]; exact Arr.made _ _ _
  obtain ⟨W2, hW2⟩ : ∃ W2, W1.alloc (.cells #[] 5) = W2 := ⟨_, rfl⟩
  have HO2 : Hid (W2.ownsRow W1.heap.size 5 1 (.slice (some ⟨W1.heap.size, 0, none⟩) 0 0) 0 (bytesV [])) := Lib.hid (by rw [← hW2]; exact World.ownsRow_lit W1 #[] 0 (Nat.le_refl _) (Nat.zero_le _) rfl)
  have hb2 : Below W1.heap.size W1 W2 := by rw [← hW2]; exact (Below.refl _ _).alloc (Nat.le_refl _) _
  have HP2 : Hid (RowIs W2 ok (bytesV k) ck) := Lib.hid ((hK.later hb1).later hb2)
  have HMR := Lib.hid (hM.later hb1)
  have HB1 := Lib.hid hb1
  have HB2 := Lib.hid hb2
  have HV1 := Lib.hid (hV.later hb1)
  have HR1 := Lib.hid hR1
  have HW1 := Lib.hid hW1
  have HW2 := Lib.hid hW2
  have HS1 := Lib.hid hs1
  have HG := Lib.hid hg
  have HZ := Lib.hid hZ
  obtain ⟨n, hn⟩ : ∃ n, k.length = n := ⟨_, rfl⟩
  have HN := Lib.hid hn
  rw [hn] at hkl ⊢
  clear hK hM hV hb1 hb2 hR1 hW1 hW2 hs1 hg hZ hn
  go_enter Tryd.func26, Tryd.ntmps26
  go_upto_region 1 with fail
  rw [HW1.out]
  go_wp2_with (first | rw [HW2.out] | (at_builtin; refine append_row rfl (.tmp 12) (.tmp 13) rfl W1.heap.size _ 0 [] rfl HO2.out ok n ck k rfl HN.out.symm HP2.out (by omega) HB2.out.size ?_))
  intro v3 W3 hv3 hg3
  have HB3 := Lib.hid (own_below (n := 0) HB2.out HO2.out hg3)
  have hv3 : W3.ownsRow W1.heap.size 5 1 v3 n (bytesV k) := by simpa using hv3
  have HO3 := Lib.hid hv3
  obtain ⟨o3, c3, rfl, hr3⟩ := owns_is hv3 (by simp [HN.out])
  have HR3 := Lib.hid hr3
  clear hv3 hg3 hr3 HO2 HP2 HW2 HB2
  obtain ⟨S, hS⟩ : ∃ S, (if 64 < k.length then Da.sha k else k) = S := ⟨_, rfl⟩
  have hSl : S.length ≤ 64 := by rw [← hS]; exact Da.short_le k
  have HS := Lib.hid hS
  clear hS
  by_cases hlong : 64 < n
  case' pos =>
    have hd : decide ((n : Int) > 64) = true := by simp; omega
    have hS : Da.sha k = S := by rw [← HS.out, HN.out, if_pos hlong]
    obtain ⟨D, hD⟩ : ∃ D, (bytesV S).toArray = D := ⟨_, rfl⟩
    have hS32 : S.length = 32 := by rw [← hS]; exact Da.sha_length _
    have RO : Hid (Calls Tryd.prog 35 #[.slice o3 n c3] W3 fun e w' => e = .returned (.agg D) ∧ Below W3.heap.size W3 w') := Lib.hid (by
      have := rof_any k o3 c3 W3 HR3.out (HV1.out.later HB3.out) (by rw [HN.out]; omega)
      rw [HN.out, hS, hD] at this
      exact this)
    have HDS : Hid ((Tryd.prog.info? 51).map (·.size) = some D.size) := Lib.hid (by rw [d32_info, ← hD]; simp [hS32])
    have HDO : Hid (D.all (·.oneCell') = true) := Lib.hid (by rw [← hD]; exact all_oneCell_toArray (bytesV_one _))
    have HDZ : Hid (Z.size = D.size) := Lib.hid (by rw [HZ.out, ← hD]; simp [hS32])
    have HD := Lib.hid hD
    have HS32 := Lib.hid hS32
    clear hS hD hS32
    go_upto_region 3 with fail
    apply wp_region_lit
    (refine wpList_plain rfl (fun K hK => ?_); go_simp; refine hK _ _ ?_; clear hK K)
    (refine wpList_plain rfl (fun K hK => ?_); go_simp)
    refine RO.out.mono ?_
    rintro e X1 ⟨rfl, hb⟩
    refine hK _ _ ?_
    clear hK K RO
    obtain ⟨X2, hX2⟩ : ∃ X2, X1.alloc (.cells Z 51) = X2 := ⟨_, rfl⟩
    obtain ⟨X3, hX3⟩ : ∃ X3, X2.setRow X1.heap.size D = X3 := ⟨_, rfl⟩
    have hA2 : Arr X2 X1.heap.size 51 Z.toList := by rw [← hX2]; exact Arr.made _ _ _
    have hA3 : Arr X3 X1.heap.size 51 (bytesV S) := by rw [← hX3, ← HD.out]; exact setRow_heap _ _ _ _ _ _ hA2
    have hb3 : Below X1.heap.size X1 X3 := by rw [← hX3, ← hX2]; exact ((Below.refl _ _).alloc (Nat.le_refl _) _).trans (below_row (Nat.le_refl _))
    have hB3 : Below W1.heap.size W1 X3 := Kit.step (Kit.step HB3.out hb) hb3
    obtain ⟨X4, hX4⟩ : ∃ X4, X3.alloc (.cells #[] 5) = X4 := ⟨_, rfl⟩
    have hb4 : Below X3.heap.size X3 X4 := by rw [← hX4]; exact (Below.refl _ _).alloc (Nat.le_refl _) _
    have HO4 : Hid (X4.ownsRow W1.heap.size 5 1 (.slice (some ⟨X3.heap.size, 0, none⟩) 0 0) 0 (bytesV [])) := Lib.hid (by rw [← hX4]; exact World.ownsRow_lit X3 #[] 0 hB3.size (Nat.zero_le _) rfl)
    have hrow := (hA3.later hb4 hA3.lt).row (by rw [HS32.out]; unfold maxLen; decide)
    rw [HS32.out] at hrow
    have HROW := Lib.hid hrow
    have HB4 := Lib.hid (Kit.step hB3 hb4)
    have HA2 : Hid (X2.heap[X1.heap.size]? = some (.cells Z 51 (0, 0))) := Lib.hid hA2
    have HX2 := Lib.hid hX2
    have HX3 := Lib.hid hX3
    have HX4 := Lib.hid hX4
    clear hX2 hX3 hX4 hA2 hA3 hb3 hB3 hb4 hrow hb
    (refine wpList_plain rfl (fun K hK => ?_); go_simp; refine hK _ _ ?_; clear hK K)
    rw [HX2.out]
    refine wpList_store_row rfl 51 (.tmp 6) (.tmp 19) rfl X1.heap.size D rfl rfl 51 Z HA2.out HDS.out HDZ.out HDO.out ?_
    rw [HX3.out]
    clear HX2 HX3 HA2 HDS HDZ HDO
    go_wp2_with (first | rw [HX4.out] | (at_builtin; refine append_row rfl (.tmp 20) (.tmp 21) rfl W1.heap.size _ 0 [] rfl HO4.out (some ⟨X1.heap.size, 0, none⟩) 32 32 S rfl HS32.out.symm HROW.out (by omega) HB4.out.size ?_))
    intro v5 W5 hv5 hg5
    have HB5 := Lib.hid (own_below (n := 0) HB4.out HO4.out hg5)
    have hv5' : W5.ownsRow W1.heap.size 5 1 v5 S.length (bytesV (S ++ List.replicate 0 0)) := by rw [HS32.out, List.replicate_zero, List.append_nil]; exact hv5
    have HO5 := Lib.hid hv5'
    clear hv5 hv5' hg5 HO4 HROW HB4 HX4 HB3 HO3 HR3 HD HS32
    go_wp2_with fail
  case' neg =>
    have hd : decide ((n : Int) > 64) = false := by simp; omega
    have hS : k = S := by rw [← HS.out, HN.out, if_neg hlong]
    have hnS : n = S.length := by rw [← hS, HN.out]
    have hv5' : W3.ownsRow W1.heap.size 5 1 (.slice o3 n c3) S.length (bytesV (S ++ List.replicate 0 0)) := by
      have := HO3.out
      rw [List.replicate_zero, List.append_nil, ← hS, HN.out]; exact this
    go_wp2_with fail
    obtain ⟨v5, hv5⟩ : ∃ v5, Value.slice o3 n c3 = v5 := ⟨_, rfl⟩
    rw [hv5] at hv5'
    obtain ⟨W5, hW5⟩ : ∃ W5, W3 = W5 := ⟨_, rfl⟩
    have HB5 := HB3
    rw [hW5] at hv5' HB5
    have HO5 := Lib.hid hv5'
    rw [hv5, hW5]
    clear hv5 hv5' hW5 HB3 HO3 HR3 hS hnS
  all_goals
    go_loopw [5] (fun v wr => Mr1 S W1 v wr) (fun v _ => 64 - slen2 v)
    case atStart => exact ⟨0, S.length, by simp, hSl, HO5.out, HB5.out⟩
    case round =>
      rename World => X1
      obtain ⟨d, L, hL, hle, hv, hb⟩ := hrel
      have HV2 := Lib.hid hv
      have HB := Lib.hid hb
      have HL := Lib.hid hL
      obtain ⟨ov, cv, rfl, hrv⟩ := owns_is hv (by rw [bytesV_length, List.length_append, List.length_replicate]; omega)
      have HRV := Lib.hid hrv
      clear hv hb hL hrv
      by_cases hlt : L < 64
      · have hd1 : decide ((L : Int) < 64) = true := by simp; omega
        obtain ⟨W6, hW6⟩ : ∃ W6, X1.alloc (.cells #[.int .u8 0] 5) = W6 := ⟨_, rfl⟩
        have HO6 : Hid (W6.ownsRow W1.heap.size 5 1 _ L (bytesV (S ++ List.replicate d 0))) := Lib.hid (by rw [← hW6]; exact World.ownsRow.alloc HV2.out _)
        have HZ6 : Hid (RowIs W6 (some ⟨X1.heap.size, 0, none⟩) (bytesV [0]) 1) := Lib.hid (by rw [← hW6]; exact one_row X1 0)
        have HB6 : Hid (Below W1.heap.size W1 W6) := Lib.hid (by rw [← hW6]; exact HB.out.alloc HB.out.size _)
        have HW6 := Lib.hid hW6
        clear hW6 HV2 HRV
        go_wp2_with (first | rw [HW6.out] | (at_builtin; refine append_row rfl (.tmp 26) (.tmp 27) rfl W1.heap.size _ L (S ++ List.replicate d 0) rfl HO6.out _ 1 1 [0] rfl rfl HZ6.out (by omega) HB6.out.size ?_))
        intro v7 W7 hv7 hg7
        have HB7 := own_below (n := 0) HB6.out HO6.out hg7
        have HX : Hid (Mr1 S W1 v7 W7) := Lib.hid ⟨d + 1, L + 1, by rw [HL.out]; omega, by omega, by rw [List.replicate_succ']; exact hv7, HB7⟩
        obtain ⟨o7, c7, rfl, _⟩ := owns_is hv7 (by rw [bytesV_length, List.length_append, List.length_append, List.length_replicate]; have := HL.out; simp; omega)
        clear hv7 hg7 HB7
        go_wp2_with fail
        exact ⟨HX.out, by simp only [slen2]; omega⟩
      · obtain rfl : L = 64 := by omega
        have hF : S ++ List.replicate d 0 = Da.fil k := by
          unfold Da.fil
          rw [HS.out, show d = 64 - S.length by have := HL.out; omega]
        obtain ⟨F, hF2⟩ : ∃ F, Da.fil k = F := ⟨_, rfl⟩
        have hFl : F.length = 64 := by rw [← hF2]; exact Da.fil_length k
        have hrv := HRV.out
        rw [hF, hF2] at hrv
        have HRV := Lib.hid hrv
        have HF2 := Lib.hid hF2
        have HFL := Lib.hid hFl
        clear hF hF2 hFl hrv HV2 HO5 HB5
        obtain ⟨W8, hW8⟩ : ∃ W8, X1.alloc (.cells #[] 5) = W8 := ⟨_, rfl⟩
        obtain ⟨W9, hW9⟩ : ∃ W9, W8.alloc (.cells #[] 5) = W9 := ⟨_, rfl⟩
        have HT9 : Hid (Tw X1 W9 (.slice (some ⟨X1.heap.size, 0, none⟩) 0 0) (.slice (some ⟨W8.heap.size, 0, none⟩) 0 0) 0 0 (Da.xk (F.take 0) 54) (Da.xk (F.take 0) 92)) := Lib.hid (by
          have hs8 : W8.heap.size = X1.heap.size + 1 := by rw [← hW8, World.size_alloc]
          refine ⟨?_, ?_, ⟨X1.heap.size, W8.heap.size, rfl, rfl, by omega⟩, ?_⟩
          · rw [← hW9]
            refine World.ownsRow.alloc ?_ _
            rw [← hW8]; exact World.ownsRow_lit X1 #[] 0 (Nat.le_refl _) (Nat.zero_le _) rfl
          · rw [← hW9]; exact World.ownsRow_lit W8 #[] 0 (by omega) (Nat.zero_le _) rfl
          · rw [← hW9, ← hW8]; exact ((Below.refl _ _).alloc (Nat.le_refl _) _).alloc (by rw [World.size_alloc]; omega) _)
        have HW8 := Lib.hid hW8
        have HW9 := Lib.hid hW9
        clear hW8 hW9
        go_wp2_with (first | rw [HW8.out] | rw [HW9.out])
        go_loopw [7, 8, 33] (fun va vb i wr => Mr2 F X1 va vb i wr) (fun va vb i _ => 64 - (intOf i).toNat)
        case atStart => exact ⟨0, Nat.zero_le _, rfl, HT9.out⟩
        case round =>
          rename World => Y1
          obtain ⟨j, hj, rfl, hT⟩ := hrel
          by_cases hlt : j < 64
          · have hd1 : decide ((j : Int) < 64) = true := by simp; omega
            obtain ⟨bk, fk, rfl, hbk, hck⟩ := (HRV.out.later hT.below).cells (by rw [bytesV_length, HFL.out]; decide)
            obtain ⟨c, hc⟩ : ∃ c, F.getD j 0 = c := ⟨_, rfl⟩
            have hc1 : Y1.cell? ⟨bk, fk + j, none⟩ = some (.int .u8 (c.toNat : Int)) := hck j _ (by rw [bytesV_get _ _ (by rw [HFL.out]; exact hlt), hc])
            obtain ⟨x1, hx1⟩ : ∃ x1, c ^^^ 54 = x1 := ⟨_, rfl⟩
            obtain ⟨x2, hx2⟩ : ∃ x2, c ^^^ 92 = x2 := ⟨_, rfl⟩
            have hX1 : bits .xor .u8 (c.toNat : Int) 54 = (x1.toNat : Int) := by
              rw [← hx1, UInt8.toNat_xor]; exact u8_xor_nat _ 54 (UInt8.toNat_lt _) (by decide)
            have hX2 : bits .xor .u8 (c.toNat : Int) 92 = (x2.toNat : Int) := by
              rw [← hx2, UInt8.toNat_xor]; exact u8_xor_nat _ 92 (UInt8.toNat_lt _) (by decide)
            obtain ⟨W10, hW10⟩ : ∃ W10, Y1.alloc (.cells #[.int .u8 (x1.toNat : Int)] 5) = W10 := ⟨_, rfl⟩
            have HT10 : Hid (Tw X1 W10 u7 u8 j j (Da.xk (F.take j) 54) (Da.xk (F.take j) 92)) := Lib.hid (by rw [← hW10]; exact hT.alloc _)
            have HZ10 : Hid (RowIs W10 (some ⟨Y1.heap.size, 0, none⟩) (bytesV [x1]) 1) := Lib.hid (by rw [← hW10]; exact one_row Y1 x1)
            have hE1 : Da.xk (F.take j) 54 ++ [x1] = Da.xk (F.take (j + 1)) 54 := by rw [Da.xk_step F 54 j (by rw [HFL.out]; exact hlt), hc, hx1]
            have hE2 : Da.xk (F.take j) 92 ++ [x2] = Da.xk (F.take (j + 1)) 92 := by rw [Da.xk_step F 92 j (by rw [HFL.out]; exact hlt), hc, hx2]
            have HE1 := Lib.hid hE1
            have HE2 := Lib.hid hE2
            have HW10 := Lib.hid hW10
            clear hW10 hE1 hE2 hT hx1 hx2 hck hc HT9 HW8 HW9
            go_upto_region 11 with fail
            apply wp_region_lit
            (refine wpList_plain rfl (fun K hK => ?_); go_simp; refine hK _ _ ?_; clear hK K)
            (refine wpList_plain rfl (fun K hK => ?_); go_simp; refine hK _ _ ?_; clear hK K)
            (refine wpList_plain rfl (fun K hK => ?_); go_simp; refine hK _ _ ?_; clear hK K)
            (refine wpList_plain rfl (fun K hK => ?_); go_simp; refine hK _ _ ?_; clear hK K)
            rw [HW10.out]
            refine append_row_at rfl (.tmp 37) (.tmp 40) rfl X1.heap.size _ j (Da.xk (F.take j) 54) rfl HT10.out.a _ 1 1 [x1] rfl rfl HZ10.out (by omega) HT10.out.below.size ?_
            intro va' W11 hv hg hat
            have hT11 := HT10.out.app hv hg hat
            rw [HE1.out] at hT11
            obtain ⟨W12, hW12⟩ : ∃ W12, W11.alloc (.cells #[.int .u8 (x2.toNat : Int)] 5) = W12 := ⟨_, rfl⟩
            have HT12 : Hid (Tw X1 W12 va' u8 (j + 1) j (Da.xk (F.take (j + 1)) 54) (Da.xk (F.take j) 92)) := Lib.hid (by rw [← hW12]; exact hT11.alloc _)
            have HZ12 : Hid (RowIs W12 (some ⟨W11.heap.size, 0, none⟩) (bytesV [x2]) 1) := Lib.hid (by rw [← hW12]; exact one_row W11 x2)
            have HW12 := Lib.hid hW12
            clear hv hg hat hT11 hW12 HT10 HZ10 HW10
            (refine wpList_plain rfl (fun K hK => ?_); go_simp; refine hK _ _ ?_; clear hK K)
            (refine wpList_plain rfl (fun K hK => ?_); go_simp; refine hK _ _ ?_; clear hK K)
            (refine wpList_plain rfl (fun K hK => ?_); go_simp; refine hK _ _ ?_; clear hK K)
            (refine wpList_plain rfl (fun K hK => ?_); go_simp; refine hK _ _ ?_; clear hK K)
            rw [HW12.out]
            refine append_row_at rfl (.tmp 42) (.tmp 45) rfl X1.heap.size _ j (Da.xk (F.take j) 92) rfl HT12.out.b _ 1 1 [x2] rfl rfl HZ12.out (by omega) HT12.out.below.size ?_
            intro vb' W13 hv hg hat
            have hT13 := HT12.out.swap.app hv hg hat
            rw [HE2.out] at hT13
            have HX : Hid (Mr2 F X1 va' vb' (.int .i64 ((j : Int) + 1)) W13) := Lib.hid ⟨j + 1, by omega, by go_num, hT13.swap⟩
            clear hv hg hat hT13 HT12 HZ12 HW12
            go_wp2_with fail
            exact ⟨HX.out, by simp [intOf]; omega⟩
          · obtain rfl : j = 64 := by omega
            rw [List.take_of_length_le (by rw [HFL.out]; decide)] at hT
            clear HT9 HW8 HW9 HRV
            have HT := Lib.hid hT
            clear hT
            obtain ⟨A, hA⟩ : ∃ A, Da.xk F 54 = A := ⟨_, rfl⟩
            obtain ⟨B, hB⟩ : ∃ B, Da.xk F 92 = B := ⟨_, rfl⟩
            have hAl : A.length = 64 := by rw [← hA, Da.xk_length]; exact HFL.out
            have hBl : B.length = 64 := by rw [← hB, Da.xk_length]; exact HFL.out
            obtain ⟨I, hI⟩ : ∃ I, Da.sha (A ++ m) = I := ⟨_, rfl⟩
            have hIl : I.length = 32 := by rw [← hI]; exact Da.sha_length _
            have HRES : Hid (Da.hmac k m = Da.sha (B ++ I)) := Lib.hid (by unfold Da.hmac; rw [HF2.out, hA, hB, hI])
            have hT14 := HT.out
            rw [hA, hB] at hT14
            have HT14 := Lib.hid hT14
            have HBY : Hid (Below W1.heap.size W1 Y1) := Lib.hid (Kit.step HB.out HT14.out.below)
            have HMY := Lib.hid (HMR.out.later HBY.out)
            have HAL := Lib.hid hAl
            have HBL := Lib.hid hBl
            have HIL := Lib.hid hIl
            have HI := Lib.hid hI
            clear hA hB hAl hBl hIl hI hT14 HT HF2 HS hSl
            obtain ⟨l, hl⟩ : ∃ l, m.length = l := ⟨_, rfl⟩
            have HLL := Lib.hid hl
            rw [hl] at hml ⊢
            clear hl
            go_upto_region 13 with fail
            apply wp_region_lit
            (refine wpList_plain rfl (fun K hK => ?_); go_simp; refine hK _ _ ?_; clear hK K)
            (refine wpList_plain rfl (fun K hK => ?_); go_simp; refine hK _ _ ?_; clear hK K)
            refine append_row_at rfl (.tmp 48) (.tmp 49) rfl X1.heap.size _ 64 A rfl HT14.out.a om l cm m rfl HLL.out.symm HMY.out (by omega) HT14.out.below.size ?_
            intro va' Y2 hv hg hat
            have HT15 := Lib.hid (HT14.out.app hv hg hat)
            obtain ⟨o2, c2, rfl, hr2⟩ := owns_is hv (by rw [bytesV_length, List.length_append, HAL.out, HLL.out])
            have HY2 := Lib.hid (Kit.step HB.out HT15.out.below)
            have RO : Hid (Calls Tryd.prog 35 #[.slice o2 (64 + l) c2] Y2 fun e w' => e = .returned (.agg (bytesV I).toArray) ∧ Below Y2.heap.size Y2 w') := Lib.hid (by
              have := rof_any (A ++ m) o2 c2 Y2 hr2 (HV1.out.later HY2.out) (by rw [List.length_append, HAL.out, HLL.out]; omega)
              rw [List.length_append, HAL.out, HLL.out, HI.out] at this
              exact this)
            obtain ⟨E, hE⟩ : ∃ E, (bytesV I).toArray = E := ⟨_, rfl⟩
            rw [hE] at RO
            have HES : Hid ((Tryd.prog.info? 51).map (·.size) = some E.size) := Lib.hid (by rw [d32_info, ← hE]; simp [HIL.out])
            have HEO : Hid (E.all (·.oneCell') = true) := Lib.hid (by rw [← hE]; exact all_oneCell_toArray (bytesV_one _))
            have HEZ : Hid (Z.size = E.size) := Lib.hid (by rw [HZ.out, ← hE]; simp [HIL.out])
            have HE := Lib.hid hE
            clear hv hg hat hr2 hE HT14 HBY HMY
            (refine wpList_plain rfl (fun K hK => ?_); go_simp)
            refine RO.out.mono ?_
            rintro e Y3 ⟨rfl, hb⟩
            refine hK _ _ ?_
            clear hK K RO
            obtain ⟨Y4, hY4⟩ : ∃ Y4, Y3.alloc (.cells Z 51) = Y4 := ⟨_, rfl⟩
            obtain ⟨Y5, hY5⟩ : ∃ Y5, Y4.setRow Y3.heap.size E = Y5 := ⟨_, rfl⟩
            have hA4 : Arr Y4 Y3.heap.size 51 Z.toList := by rw [← hY4]; exact Arr.made _ _ _
            have hA5 : Arr Y5 Y3.heap.size 51 (bytesV I) := by rw [← hY5, ← HE.out]; exact setRow_heap _ _ _ _ _ _ hA4
            have hb5 : Below Y3.heap.size Y3 Y5 := by rw [← hY5, ← hY4]; exact ((Below.refl _ _).alloc (Nat.le_refl _) _).trans (below_row (Nat.le_refl _))
            have HT16 := Lib.hid ((HT15.out.later hb).later hb5)
            have hrow := hA5.row (by rw [HIL.out]; unfold maxLen; decide)
            rw [HIL.out] at hrow
            have HROW := Lib.hid hrow
            have HA4 : Hid (Y4.heap[Y3.heap.size]? = some (.cells Z 51 (0, 0))) := Lib.hid hA4
            have HY4 := Lib.hid hY4
            have HY5 := Lib.hid hY5
            clear hY4 hY5 hA4 hA5 hb5 hb hrow HT15 HY2
            (refine wpList_plain rfl (fun K hK => ?_); go_simp; refine hK _ _ ?_; clear hK K)
            rw [HY4.out]
            refine wpList_store_row rfl 51 (.tmp 11) (.tmp 51) rfl Y3.heap.size E rfl rfl 51 Z HA4.out HES.out HEZ.out HEO.out ?_
            rw [HY5.out]
            clear HY4 HY5 HA4
            go_upto_region 14 with fail
            apply wp_region_lit
            (refine wpList_plain rfl (fun K hK => ?_); go_simp; refine hK _ _ ?_; clear hK K)
            (refine wpList_plain rfl (fun K hK => ?_); go_simp; refine hK _ _ ?_; clear hK K)
            refine append_row_at rfl (.tmp 52) (.tmp 53) rfl X1.heap.size _ 64 B rfl HT16.out.b (some ⟨Y3.heap.size, 0, none⟩) 32 32 I rfl HIL.out.symm HROW.out (by omega) HT16.out.below.size ?_
            intro vb' Y6 hv hg hat
            have hB6 := Kit.step HB.out (HT16.out.swap.app hv hg hat).below
            obtain ⟨o6, c6, rfl, hr6⟩ := owns_is hv (by rw [bytesV_length, List.length_append, HBL.out, HIL.out])
            obtain ⟨G, hG⟩ : ∃ G, (bytesV (Da.hmac k m)).toArray = G := ⟨_, rfl⟩
            have RO : Hid (Calls Tryd.prog 35 #[.slice o6 (64 + 32) c6] Y6 fun e w' => e = .returned (.agg G) ∧ Below Y6.heap.size Y6 w') := Lib.hid (by
              have := rof_any (B ++ I) o6 c6 Y6 hr6 (HV1.out.later hB6) (by rw [List.length_append, HBL.out, HIL.out]; decide)
              rw [List.length_append, HBL.out, HIL.out, ← HRES.out, hG] at this
              exact this)
            have HGS : Hid ((Tryd.prog.info? 51).map (·.size) = some G.size) := Lib.hid (by rw [d32_info, ← hG]; simp [Da.hmac_length])
            have HGO : Hid (G.all (·.oneCell') = true) := Lib.hid (by rw [← hG]; exact all_oneCell_toArray (bytesV_one _))
            have HGZ : Hid ((bytesV (List.replicate 32 0)).toArray.size = G.size) := Lib.hid (by rw [← hG]; simp [Da.hmac_length])
            have HGE := Lib.hid hG
            have HR6 := Lib.hid (HR1.out.later hB6 HR1.out.lt)
            have HB6 := Lib.hid (Kit.step HB1.out hB6)
            clear hv hg hat hr6 hG hB6 HT16
            (refine wpList_plain rfl (fun K hK => ?_); go_simp)
            refine RO.out.mono ?_
            rintro e Y7 ⟨rfl, hb⟩
            refine hK _ _ ?_
            clear hK K RO
            have hR7 := HR6.out.later hb HR6.out.lt
            have HL7 : Hid (Y7.heap[g0]? = some (.cells (bytesV (List.replicate 32 0)).toArray 51 (0, 0))) := Lib.hid hR7
            have HGW : Hid ((Y7.setRow g0 G).heap[g0]? = some (.cells G 51 (0, 0))) := Lib.hid (setRow_heap _ _ _ _ _ _ hR7)
            have HBW : Hid (Below w.heap.size w (Y7.setRow g0 G)) := Lib.hid ((Kit.step HB6.out hb).trans (below_row (Nat.le_of_eq HG.out)))
            clear hb hR7
            rw [HG.out]
            refine wpList_store_row rfl 51 (.tmp 4) (.tmp 55) rfl g0 G rfl rfl 51 (bytesV (List.replicate 32 0)).toArray HL7.out HGS.out HGZ.out HGO.out ?_
            go_wp2_with fail
            refine bodyPost_ret (results_cell_row rfl _ _ g0 51 G (0, 0) _ rfl HGW.out d32_under rfl HGS.out) rfl ?_
            exact ⟨by rw [HGE.out], HBW.out⟩
theorem rmac_any (k m : List UInt8) (ok om : Option Addr) (ck cm : Nat) (w : World) (hK : RowIs w ok (bytesV k) ck) (hM : RowIs w om (bytesV m) cm) (hV : Rds w) (hkl : k.length ≤ 90000) (hml : m.length ≤ 90000) :
    Calls Tryd.prog 26 #[.slice ok k.length ck, .slice om m.length cm] w fun e w' => e = .returned (.agg (bytesV (Da.hmac k m)).toArray) ∧ Below w.heap.size w w' :=
  rmac_of _ rfl d32_zero k m ok om ck cm w hK hM hV hkl hml
end Go.Proofs.YtgpojlblhaphnaaDoor
