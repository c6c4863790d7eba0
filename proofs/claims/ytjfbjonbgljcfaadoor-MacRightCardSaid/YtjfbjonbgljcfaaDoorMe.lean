/- Macs: Tag, Same, Right. -/
import Derived.Test.YtjfbjonbgljcfaaDoorMd
import Derived.Test.YtjfbjonbgljcfaaDoorFwm
namespace Go.Proofs.YtjfbjonbgljcfaaDoor.Da
/-- what differs of the first n bytes, and in length -/
def dfN (a b : List UInt8) : Nat → Nat
  | 0 => a.length ^^^ b.length
  | n + 1 => dfN a b n ||| (a.getD n 0 ^^^ b.getD n 0).toNat
theorem dfN_lt (a b : List UInt8) (ha : a.length < 2 ^ 16) (hb : b.length < 2 ^ 16) : ∀ n, dfN a b n < 2 ^ 16
  | 0 => Nat.xor_lt_two_pow ha hb
  | n + 1 => Nat.or_lt_two_pow (dfN_lt a b ha hb n) (Nat.lt_trans (UInt8.toNat_lt _) (by decide))
theorem or_nil {p q : Nat} : p ||| q = 0 ↔ p = 0 ∧ q = 0 := Nat.or_eq_zero_iff
theorem dfN_nil (a b : List UInt8) : ∀ n, dfN a b n = 0 ↔ a.length = b.length ∧ ∀ i, i < n → a.getD i 0 = b.getD i 0
  | 0 => by
    rw [dfN]
    constructor
    · intro h
      refine ⟨Nat.eq_of_testBit_eq fun i => ?_, fun i hi => by omega⟩
      have := congrArg (fun n => n.testBit i) h
      simp only [Nat.testBit_xor, Nat.zero_testBit] at this
      revert this
      cases a.length.testBit i <;> cases b.length.testBit i <;> simp
    · rintro ⟨h, _⟩
      rw [h, Nat.xor_self]
  | n + 1 => by
    rw [dfN, or_nil, dfN_nil a b n]
    constructor
    · rintro ⟨⟨h1, h2⟩, h3⟩
      refine ⟨h1, fun i hi => ?_⟩
      by_cases e : i = n
      · subst e
        have h4 : a.getD i 0 ^^^ b.getD i 0 = 0 := UInt8.toNat_inj.1 h3
        exact UInt8.xor_eq_zero_iff.1 h4
      · exact h2 i (by omega)
    · rintro ⟨h1, h2⟩
      refine ⟨⟨h1, fun i hi => h2 i (by omega)⟩, ?_⟩
      rw [h2 n (by omega)]; simp
theorem dfN_eq (a b : List UInt8) : dfN a b (min a.length b.length) = 0 ↔ a = b := by
  rw [dfN_nil]
  constructor
  · rintro ⟨h1, h2⟩
    refine List.ext_getElem h1 fun i k1 k2 => ?_
    have := h2 i (by omega)
    simpa [k1, k2] using this
  · rintro rfl; exact ⟨rfl, fun _ _ => rfl⟩
end Go.Proofs.YtjfbjonbgljcfaaDoor.Da
namespace Go.Proofs.YtjfbjonbgljcfaaDoor
open Go.RowKit
set_option linter.unusedVariables false
set_option linter.unusedSimpArgs false
theorem or64 (p q : Nat) (hp : p < 2 ^ 16) (hq : q < 2 ^ 16) : bits .or .i64 (p : Int) (q : Int) = ((p ||| q : Nat) : Int) := by
  have hx : p ||| q < 2 ^ 16 := Nat.or_lt_two_pow hp hq
  have hp' : p % 2 ^ IntKind.i64.bits = p := Nat.mod_eq_of_lt (by show p < 2 ^ 64; omega)
  have hq' : q % 2 ^ IntKind.i64.bits = q := Nat.mod_eq_of_lt (by show q < 2 ^ 64; omega)
  simp only [bits, BitVec.ofInt_natCast, BitVec.toNat_or, BitVec.toNat_ofNat, hp', hq']
  rw [IntKind.wrap_i64]
  omega
def Sa1 (a b : List UInt8) (w : World) (d i : Value) (wr : World) : Prop :=
  ∃ n : Nat, n ≤ min a.length b.length ∧ i = .int .i64 n ∧ d = .int .i64 (Da.dfN a b n : Nat) ∧ Below w.heap.size w wr
set_option maxRecDepth 100000 in
set_option maxHeartbeats 1000000 in
theorem same_any (a b : List UInt8) (oa : Option Addr) (ca : Nat) (ob : Option Addr) (cb : Nat) (w : World) (hA : RowIs w oa (bytesV a) ca) (hB : RowIs w ob (bytesV b) cb) (hal : a.length ≤ 60000) (hbl : b.length ≤ 60000) :
    Calls Tryd.prog 15 #[.slice oa a.length ca, .slice ob b.length cb] w fun e w' => e = .returned (.bool (a == b)) ∧ Below w.heap.size w w' := by
  have HX0 : Hid (bits .xor .i64 (a.length : Int) (b.length : Int) = ((Da.dfN a b 0 : Nat) : Int)) := Lib.hid (Gf.xor64 _ _ (by omega) (by omega))
  have HA := Lib.hid hA
  have HB := Lib.hid hB
  obtain ⟨m, hm⟩ : ∃ m, min a.length b.length = m := ⟨_, rfl⟩
  have hmi : min (a.length : Int) (b.length : Int) = (m : Int) := by omega
  have HM := Lib.hid hm
  clear hA hB hm
  go_enter Tryd.func15, Tryd.ntmps15
  go_wp2_with (first | rw [HX0.out])
  case inl h =>
    have HL : Hid (min a.length b.length = b.length) := Lib.hid (by omega)
    have HX1 : Hid (Sa1 a b w (.int .i64 (Da.dfN a b 0 : Nat)) (.int .i64 0) w) := Lib.hid ⟨0, Nat.zero_le _, rfl, rfl, Below.refl _ _⟩
    go_loopw [5, 17] (fun d i wr => Sa1 a b w d i wr) (fun d i _ => b.length - (intOf i).toNat)
    case atStart => exact HX1.out
    case round =>
      rename World => X1
      obtain ⟨n, hn, rfl, rfl, hB1⟩ := hrel
      by_cases hlt : n < b.length
      · have hd1 : decide ((n : Int) < (b.length : Int)) = true := by simpa using hlt
        have hla : n < a.length := by omega
        have hlb : n < b.length := by omega
        obtain ⟨ba, fa, rfl, hba, hca⟩ := (HA.out.later hB1).cells (by rw [bytesV_length]; omega)
        obtain ⟨bb, fb, rfl, hbb, hcb⟩ := (HB.out.later hB1).cells (by rw [bytesV_length]; omega)
        obtain ⟨x, hx⟩ : ∃ x, a.getD n 0 = x := ⟨_, rfl⟩
        obtain ⟨y, hy⟩ : ∃ y, b.getD n 0 = y := ⟨_, rfl⟩
        have hc1 : X1.cell? ⟨ba, fa + n, none⟩ = some (.int .u8 (x.toNat : Int)) := hca n _ (by rw [bytesV_get _ _ hla, hx])
        have hc2 : X1.cell? ⟨bb, fb + n, none⟩ = some (.int .u8 (y.toNat : Int)) := hcb n _ (by rw [bytesV_get _ _ hlb, hy])
        have hX : bits .xor .u8 (x.toNat : Int) (y.toNat : Int) = ((x ^^^ y).toNat : Int) := by
          rw [u8_xor_nat _ _ (UInt8.toNat_lt _) (UInt8.toNat_lt _), UInt8.toNat_xor]
        obtain ⟨z, hz⟩ : ∃ z, (x ^^^ y).toNat = z := ⟨_, rfl⟩
        obtain ⟨q, hq⟩ : ∃ q, Da.dfN a b n = q := ⟨_, rfl⟩
        have hO : bits .or .i64 (q : Int) (z : Int) = ((q ||| z : Nat) : Int) := or64 _ _ (by rw [← hq]; exact Da.dfN_lt a b (by omega) (by omega) n) (by rw [← hz]; exact Nat.lt_trans (UInt8.toNat_lt _) (by decide))
        have hzl : z < 256 := by rw [← hz]; exact UInt8.toNat_lt _
        have hQ : Da.dfN a b (n + 1) = q ||| z := by rw [Da.dfN, hq, hx, hy, hz]
        rw [hz] at hX
        have HN : Hid (∀ nq, Sa1 a b w (.int .i64 ((q ||| z : Nat) : Int)) (.int .i64 ((n : Int) + 1)) (X1.drewN nq)) := Lib.hid fun nq => ⟨n + 1, by omega, by go_num, by rw [hQ], Kit.step hB1 (Kit.dn' X1 nq)⟩
        rw [hq]
        have hWZ : IntKind.i64.wrap (z : Int) = (z : Int) := by rw [IntKind.wrap_i64]; omega
        clear hx hy hz hq hQ hca hcb hB1 HA HB hzl
        go_wp2_with fail
        go_quiet (fail)
        go_wp2_with fail
        exact ⟨HN.out nq, by simp [intOf]; omega⟩
      · obtain rfl : n = b.length := by omega
        have hE : (((Da.dfN a b b.length : Nat) : Int) == 0) = (a == b) := by
          have := Da.dfN_eq a b
          rw [HL.out] at this
          by_cases e : a = b
          · rw [this.2 e]; subst e; simp
          · have h0 : Da.dfN a b b.length ≠ 0 := fun h => e (this.1 h)
            have h1 : (((Da.dfN a b b.length : Nat) : Int) == 0) = false := by simp; exact_mod_cast h0
            rw [h1]; exact (beq_eq_false_iff_ne.2 e).symm
        obtain ⟨r, hr⟩ : ∃ r, (a == b) = r := ⟨_, rfl⟩
        obtain ⟨q, hq⟩ : ∃ q, Da.dfN a b b.length = q := ⟨_, rfl⟩
        rw [hr, hq] at hE
        have HR := Lib.hid hr
        have HB1 := Lib.hid hB1
        rw [hq]
        clear hr hq hB1
        go_wp2_with fail
        go_ret
        exact ⟨by rw [HR.out]; rfl, HB1.out⟩
  case inr h =>
    have HL : Hid (min a.length b.length = a.length) := Lib.hid (by omega)
    have HX1 : Hid (Sa1 a b w (.int .i64 (Da.dfN a b 0 : Nat)) (.int .i64 0) w) := Lib.hid ⟨0, Nat.zero_le _, rfl, rfl, Below.refl _ _⟩
    go_loopw [5, 17] (fun d i wr => Sa1 a b w d i wr) (fun d i _ => a.length - (intOf i).toNat)
    case atStart => exact HX1.out
    case round =>
      rename World => X1
      obtain ⟨n, hn, rfl, rfl, hB1⟩ := hrel
      by_cases hlt : n < a.length
      · have hd1 : decide ((n : Int) < (a.length : Int)) = true := by simpa using hlt
        have hla : n < a.length := by omega
        have hlb : n < b.length := by omega
        obtain ⟨ba, fa, rfl, hba, hca⟩ := (HA.out.later hB1).cells (by rw [bytesV_length]; omega)
        obtain ⟨bb, fb, rfl, hbb, hcb⟩ := (HB.out.later hB1).cells (by rw [bytesV_length]; omega)
        obtain ⟨x, hx⟩ : ∃ x, a.getD n 0 = x := ⟨_, rfl⟩
        obtain ⟨y, hy⟩ : ∃ y, b.getD n 0 = y := ⟨_, rfl⟩
        have hc1 : X1.cell? ⟨ba, fa + n, none⟩ = some (.int .u8 (x.toNat : Int)) := hca n _ (by rw [bytesV_get _ _ hla, hx])
        have hc2 : X1.cell? ⟨bb, fb + n, none⟩ = some (.int .u8 (y.toNat : Int)) := hcb n _ (by rw [bytesV_get _ _ hlb, hy])
        have hX : bits .xor .u8 (x.toNat : Int) (y.toNat : Int) = ((x ^^^ y).toNat : Int) := by
          rw [u8_xor_nat _ _ (UInt8.toNat_lt _) (UInt8.toNat_lt _), UInt8.toNat_xor]
        obtain ⟨z, hz⟩ : ∃ z, (x ^^^ y).toNat = z := ⟨_, rfl⟩
        obtain ⟨q, hq⟩ : ∃ q, Da.dfN a b n = q := ⟨_, rfl⟩
        have hO : bits .or .i64 (q : Int) (z : Int) = ((q ||| z : Nat) : Int) := or64 _ _ (by rw [← hq]; exact Da.dfN_lt a b (by omega) (by omega) n) (by rw [← hz]; exact Nat.lt_trans (UInt8.toNat_lt _) (by decide))
        have hzl : z < 256 := by rw [← hz]; exact UInt8.toNat_lt _
        have hQ : Da.dfN a b (n + 1) = q ||| z := by rw [Da.dfN, hq, hx, hy, hz]
        rw [hz] at hX
        have HN : Hid (∀ nq, Sa1 a b w (.int .i64 ((q ||| z : Nat) : Int)) (.int .i64 ((n : Int) + 1)) (X1.drewN nq)) := Lib.hid fun nq => ⟨n + 1, by omega, by go_num, by rw [hQ], Kit.step hB1 (Kit.dn' X1 nq)⟩
        rw [hq]
        have hWZ : IntKind.i64.wrap (z : Int) = (z : Int) := by rw [IntKind.wrap_i64]; omega
        clear hx hy hz hq hQ hca hcb hB1 HA HB hzl
        go_wp2_with fail
        go_quiet (fail)
        go_wp2_with fail
        exact ⟨HN.out nq, by simp [intOf]; omega⟩
      · obtain rfl : n = a.length := by omega
        have hE : (((Da.dfN a b a.length : Nat) : Int) == 0) = (a == b) := by
          have := Da.dfN_eq a b
          rw [HL.out] at this
          by_cases e : a = b
          · rw [this.2 e]; subst e; simp
          · have h0 : Da.dfN a b a.length ≠ 0 := fun h => e (this.1 h)
            have h1 : (((Da.dfN a b a.length : Nat) : Int) == 0) = false := by simp; exact_mod_cast h0
            rw [h1]; exact (beq_eq_false_iff_ne.2 e).symm
        obtain ⟨r, hr⟩ : ∃ r, (a == b) = r := ⟨_, rfl⟩
        obtain ⟨q, hq⟩ : ∃ q, Da.dfN a b a.length = q := ⟨_, rfl⟩
        rw [hr, hq] at hE
        have HR := Lib.hid hr
        have HB1 := Lib.hid hB1
        rw [hq]
        clear hr hq hB1
        go_wp2_with fail
        go_ret
        exact ⟨by rw [HR.out]; rfl, HB1.out⟩
theorem a8_info : (Tryd.prog.info? 43).map (·.size) = some 8 := by kernel_rfl
theorem a8_under : Tryd.prog.underlying 43 = some (.array 8 5) := by kernel_rfl
theorem a8_zero (w : World) : Sem.run Tryd.prog (zeroValue 43) w = .ok (.agg (bytesV (List.replicate 8 0)).toArray) w := by kernel_rfl
set_option maxRecDepth 100000 in
set_option maxHeartbeats 1000000 in
theorem tag_of (Z Y : Array Value) (hZ : Z = (bytesV (List.replicate 32 0)).toArray) (hzs : ∀ w, Sem.run Tryd.prog (zeroValue 31) w = .ok (.agg Z) w) (hY : Y = (bytesV (List.replicate 8 0)).toArray) (hys : ∀ w, Sem.run Tryd.prog (zeroValue 43) w = .ok (.agg Y) w)
    (k : List UInt8) (b : Nat) (bs : List (List UInt8)) (o : Option Addr) (c : Nat) (w : World) (hA : Arr w b 41 (bytesV (Da.fil k)))
    (hR : RbIs w o bs c) (hV : Cds w) (hl : bs.flatten.length ≤ 800000) (hn : bs.length ≤ 1000000) :
    Calls Tryd.prog 9 #[.pointer (some ⟨b, 0, none⟩), .slice o bs.length c] w fun e w' =>
      ∃ g, e = .returned (.slice (some ⟨g, 0, none⟩) 8 8) ∧ RowIs w' (some ⟨g, 0, none⟩) (bytesV ((Da.hmac k bs.flatten).take 8)) 8 ∧ Below w.heap.size w w' := by
  have KO := Lib.hid (kofh_any k b bs o c w hA hR hV hl hn)
  obtain ⟨h, hh⟩ : ∃ h, Da.hmac k bs.flatten = h := ⟨_, rfl⟩
  have hhl : h.length = 32 := by rw [← hh]; exact Da.hmac_length _ _
  obtain ⟨E, hE⟩ : ∃ E, (bytesV h).toArray = E := ⟨_, rfl⟩
  obtain ⟨T, hT⟩ : ∃ T, (bytesV (h.take 8)).toArray = T := ⟨_, rfl⟩
  have HES : Hid ((Tryd.prog.info? 31).map (·.size) = some E.size) := Lib.hid (by rw [dg_info, ← hE]; simp [hhl])
  have HEO : Hid (E.all (·.oneCell') = true) := Lib.hid (by rw [← hE]; exact all_oneCell_toArray (bytesV_one _))
  have HEZ : Hid (Z.size = E.size) := Lib.hid (by rw [hZ, ← hE]; simp [hhl])
  have HTS : Hid ((Tryd.prog.info? 43).map (·.size) = some T.size) := Lib.hid (by rw [a8_info, ← hT]; simp [hhl])
  have HTS2 : Hid ((Tryd.prog.info? 43).map (·.size) = some (bytesV (h.take 8)).length) := Lib.hid (by rw [a8_info]; simp [hhl])
  have HTO : Hid (T.all (·.oneCell') = true) := Lib.hid (by rw [← hT]; exact all_oneCell_toArray (bytesV_one _))
  have HTZ : Hid (Y.size = T.size) := Lib.hid (by rw [hY, ← hT]; simp [hhl])
  rw [hh, hE] at KO
  have HE := Lib.hid hE
  have HT := Lib.hid hT
  have HHL := Lib.hid hhl
  have HH := Lib.hid hh
  rw [hh]
  clear hR hV hE hT hhl hZ hY hA hh
  go_enter Tryd.func9, Tryd.ntmps9
  go_upto_region 1 with fail
  apply wp_region_lit
  (refine wpList_plain rfl (fun K hK => ?_); go_simp; refine hK _ _ ?_; clear hK K)
  (refine wpList_plain rfl (fun K hK => ?_); go_simp; refine hK _ _ ?_; clear hK K)
  (refine wpList_plain rfl (fun K hK => ?_); go_simp)
  refine KO.out.mono ?_
  rintro e W1 ⟨rfl, hb1⟩
  refine hK _ _ ?_
  clear hK K KO
  obtain ⟨W2, hW2⟩ : ∃ W2, W1.alloc (.cells Z 31) = W2 := ⟨_, rfl⟩
  obtain ⟨W3, hW3⟩ : ∃ W3, W2.setRow W1.heap.size E = W3 := ⟨_, rfl⟩
  have hA2 : Arr W2 W1.heap.size 31 Z.toList := by rw [← hW2]; exact Arr.made _ _ _
  have hA3 : Arr W3 W1.heap.size 31 (bytesV h) := by rw [← hW3, ← HE.out]; exact setRow_heap _ _ _ _ _ _ hA2
  have hb3 : Below W1.heap.size W1 W3 := by rw [← hW3, ← hW2]; exact ((Below.refl _ _).alloc (Nat.le_refl _) _).trans (below_row (Nat.le_refl _))
  have hB3 := Kit.step hb1 hb3
  have HA2 : Hid (W2.heap[W1.heap.size]? = some (.cells Z 31 (0, 0))) := Lib.hid hA2
  have HRA : Hid (W3.rangeAt W1.heap.size 0 (bytesV (h.take 8))) := Lib.hid (hA3.range 0 _ fun j v hv => by
    rw [Nat.zero_add]
    rw [← hv]
    have hj : j < (h.take 8).length := by have := (List.getElem?_eq_some_iff.1 hv).1; rwa [bytesV_length] at this
    unfold bytesV
    rw [List.getElem?_map, List.getElem?_map, List.getElem?_take, if_pos (by rw [List.length_take] at hj; omega)])
  have HB3 := Lib.hid hB3
  have HW2 := Lib.hid hW2
  have HW3 := Lib.hid hW3
  clear hW2 hW3 hA2 hA3 hb3 hB3 hb1
  (refine wpList_plain rfl (fun K hK => ?_); go_simp; refine hK _ _ ?_; clear hK K)
  rw [HW2.out]
  refine wpList_store_row rfl 31 (.tmp 5) (.tmp 9) rfl W1.heap.size E rfl rfl 31 Z HA2.out HES.out HEZ.out HEO.out ?_
  rw [HW3.out]
  clear HW2 HW3 HA2
  go_upto_region 2 with fail
  apply wp_region_lit
  (refine wpList_plain rfl (fun K hK => ?_); go_simp; refine hK _ _ ?_; clear hK K)
  (refine wpList_plain rfl (fun K hK => ?_); go_simp; refine hK _ _ ?_; clear hK K)
  refine wpList_load_mid rfl 43 (.tmp 11) rfl W1.heap.size 0 rfl (bytesV (h.take 8)) _ HRA.out a8_under rfl HTS2.out ?_
  rw [HT.out]
  obtain ⟨W4, hW4⟩ : ∃ W4, W3.alloc (.cells Y 43) = W4 := ⟨_, rfl⟩
  obtain ⟨W5, hW5⟩ : ∃ W5, W4.setRow W3.heap.size T = W5 := ⟨_, rfl⟩
  have hA4 : Arr W4 W3.heap.size 43 Y.toList := by rw [← hW4]; exact Arr.made _ _ _
  have hA5 : Arr W5 W3.heap.size 43 (bytesV (h.take 8)) := by rw [← hW5, ← HT.out]; exact setRow_heap _ _ _ _ _ _ hA4
  have hb5 : Below W3.heap.size W3 W5 := by rw [← hW5, ← hW4]; exact ((Below.refl _ _).alloc (Nat.le_refl _) _).trans (below_row (Nat.le_refl _))
  have HA4 : Hid (W4.heap[W3.heap.size]? = some (.cells Y 43 (0, 0))) := Lib.hid hA4
  have hrow := hA5.row (by rw [List.length_take, HHL.out]; unfold maxLen; decide)
  rw [show (h.take 8).length = 8 by rw [List.length_take, HHL.out]; rfl] at hrow
  have HROW := Lib.hid hrow
  have HB5 := Lib.hid (Kit.step HB3.out hb5)
  have HW4 := Lib.hid hW4
  have HW5 := Lib.hid hW5
  clear hW4 hW5 hA4 hA5 hb5 hrow
  (refine wpList_plain rfl (fun K hK => ?_); go_simp; refine hK _ _ ?_; clear hK K)
  rw [HW4.out]
  refine wpList_store_row rfl 43 (.tmp 6) (.tmp 12) rfl W3.heap.size T rfl rfl 43 Y HA4.out HTS.out HTZ.out HTO.out ?_
  rw [HW5.out]
  go_wp2_with fail
  go_ret
  exact ⟨_, rfl, HROW.out, HB5.out⟩
theorem tag_any (k : List UInt8) (b : Nat) (bs : List (List UInt8)) (o : Option Addr) (c : Nat) (w : World) (hA : Arr w b 41 (bytesV (Da.fil k)))
    (hR : RbIs w o bs c) (hV : Cds w) (hl : bs.flatten.length ≤ 800000) (hn : bs.length ≤ 1000000) :
    Calls Tryd.prog 9 #[.pointer (some ⟨b, 0, none⟩), .slice o bs.length c] w fun e w' =>
      ∃ g, e = .returned (.slice (some ⟨g, 0, none⟩) 8 8) ∧ RowIs w' (some ⟨g, 0, none⟩) (bytesV ((Da.hmac k bs.flatten).take 8)) 8 ∧ Below w.heap.size w w' :=
  tag_of _ _ rfl dg_zero rfl a8_zero k b bs o c w hA hR hV hl hn
set_option maxRecDepth 100000 in
set_option maxHeartbeats 1000000 in
theorem kright_any (k : List UInt8) (b : Nat) (t : List UInt8) (ot : Option Addr) (ct : Nat) (bs : List (List UInt8)) (o : Option Addr) (c : Nat) (w : World) (hA : Arr w b 41 (bytesV (Da.fil k)))
    (hT : RowIs w ot (bytesV t) ct) (htl : t.length ≤ 60000) (hR : RbIs w o bs c) (hV : Cds w) (hl : bs.flatten.length ≤ 800000) (hn : bs.length ≤ 1000000) :
    Calls Tryd.prog 12 #[.pointer (some ⟨b, 0, none⟩), .slice ot t.length ct, .slice o bs.length c] w fun e w' =>
      e = .returned (.bool (t == (Da.hmac k bs.flatten).take 8)) ∧ Below w.heap.size w w' := by
  have TG := Lib.hid (tag_any k b bs o c w hA hR hV hl hn)
  obtain ⟨h, hh⟩ : ∃ h, (Da.hmac k bs.flatten).take 8 = h := ⟨_, rfl⟩
  have hhl : h.length = 8 := by rw [← hh, List.length_take, Da.hmac_length]; rfl
  rw [hh] at TG ⊢
  have SM : Hid (∀ (g : Nat) (w' : World), RowIs w' (some ⟨g, 0, none⟩) (bytesV h) 8 → Below w.heap.size w w' → Calls Tryd.prog 15 #[.slice ot t.length ct, .slice (some ⟨g, 0, none⟩) 8 8] w' fun e w2 => e = .returned (.bool (t == h)) ∧ Below w'.heap.size w' w2) := Lib.hid fun g w' hr hb => by
    have := same_any t h ot ct (some ⟨g, 0, none⟩) 8 w' (hT.later hb) hr htl (by omega)
    rw [hhl] at this
    exact this
  clear hA hT hR hV hh hhl
  go_enter Tryd.func12, Tryd.ntmps12
  go_wp2_with fail
  refine TG.out.mono ?_
  rintro e W1 ⟨g, rfl, hr, hb⟩
  go_wp2_with fail
  refine (SM.out g W1 hr hb).mono ?_
  rintro e W2 ⟨rfl, hb2⟩
  go_wp2_with fail
  go_ret
  exact ⟨rfl, Kit.step hb hb2⟩
end Go.Proofs.YtjfbjonbgljcfaaDoor
