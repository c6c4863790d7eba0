/- Mc2 -/
import Derived.Test.YtffheegeaghfjaaGreatDoorHk
import Derived.Laws.CopyOwn
import Derived.Laws.BitsAllLaws
import Derived.Test.YtffheegeaghfjaaGreatDoorMac
set_option linter.unusedVariables false
set_option linter.unusedSimpArgs false
set_option maxRecDepth 100000
set_option maxHeartbeats 8000000
namespace Go.Proofs.YtffheegeaghfjaaGreatDoor.Da
def dfN (a b : List UInt8) : Nat -> Nat
 | 0 => a.length ^^^ b.length
 | n + 1 => dfN a b n ||| (a.getD n 0 ^^^ b.getD n 0).toNat
theorem dfN_lt (a b : List UInt8) (ha : a.length < 2 ^ 16) (hb : b.length < 2 ^ 16) : ∀ n, dfN a b n < 2 ^ 16
 | 0 => Nat.xor_lt_two_pow ha hb
 | n + 1 => Nat.or_lt_two_pow (dfN_lt a b ha hb n) (Nat.lt_trans (UInt8.toNat_lt _) (by decide))
theorem or_nil {p q : Nat} : p ||| q = 0 ↔ p = 0 /\ q = 0 := Nat.or_eq_zero_iff
theorem dfN_nil (a b : List UInt8) : ∀ n, dfN a b n = 0 ↔ a.length = b.length /\ ∀ i, i < n -> a.getD i 0 = b.getD i 0
 | 0 => by
  rw [dfN]
  constructor
  ·intro h
   refine ⟨Nat.eq_of_testBit_eq fun i => ?_, fun i hi => by omega⟩
   have := congrArg (fun n => n.testBit i) h
   simp only [Nat.testBit_xor, Nat.zero_testBit] at this
   revert this
   cases a.length.testBit i <;> cases b.length.testBit i <;> simp
  ·rintro ⟨h, _⟩
   rw [h, Nat.xor_self]
 | n + 1 => by
  rw [dfN, or_nil, dfN_nil a b n]
  constructor
  ·rintro ⟨⟨h1, h2⟩, h3⟩
   refine ⟨h1, fun i hi => ?_⟩
   by_cases e : i = n
   ·subst e
    have h4 : a.getD i 0 ^^^ b.getD i 0 = 0 := UInt8.toNat_inj.1 h3
    exact UInt8.xor_eq_zero_iff.1 h4
   ·exact h2 i (by omega)
  ·rintro ⟨h1, h2⟩
   refine ⟨⟨h1, fun i hi => h2 i (by omega)⟩, ?_⟩
   rw [h2 n (by omega)]; simp
theorem dfN_eq (a b : List UInt8) : dfN a b (min a.length b.length) = 0 ↔ a = b := by
 rw [dfN_nil]
 constructor
 ·rintro ⟨h1, h2⟩
  refine List.ext_getElem h1 fun i k1 k2 => ?_
  have := h2 i (by omega)
  simpa [k1, k2] using this
 ·rintro rfl; exact ⟨rfl, fun _ _ => rfl⟩
end Go.Proofs.YtffheegeaghfjaaGreatDoor.Da
namespace Go.Proofs.YtffheegeaghfjaaGreatDoor
open Go.RowKit
theorem or64 (p q : Nat) (hp : p < 2 ^ 16) (hq : q < 2 ^ 16) : bits .or .i64 (p : Int) (q : Int) = ((p ||| q : Nat) : Int) := by
 have hx : p ||| q < 2 ^ 16 := Nat.or_lt_two_pow hp hq
 have hp' : p % 2 ^ IntKind.i64.bits = p := Nat.mod_eq_of_lt (by show p < 2 ^ 64; omega)
 have hq' : q % 2 ^ IntKind.i64.bits = q := Nat.mod_eq_of_lt (by show q < 2 ^ 64; omega)
 simp only [bits, BitVec.ofInt_natCast, BitVec.toNat_or, BitVec.toNat_ofNat, hp', hq']
 rw [IntKind.wrap_i64]
 omega
def Sa1 (a b : List UInt8) (w : World) (d i : Value) (wr : World) : Prop :=
 ∃ n : Nat, n <= min a.length b.length /\ i = .int .i64 n /\ d = .int .i64 (Da.dfN a b n : Nat) /\ Below w.heap.size w wr
theorem same_any (a b : List UInt8) (oa : Option Addr) (ca : Nat) (ob : Option Addr) (cb : Nat) (w : World) (hA : RowIs w oa (bytesV a) ca) (hB : RowIs w ob (bytesV b) cb) (hal : a.length <= 60000) (hbl : b.length <= 60000) :
    Calls Tryz.prog 104 #[.slice oa a.length ca, .slice ob b.length cb] w fun e w' => e = .returned (.bool (a == b)) /\ Below w.heap.size w w' := by
 have HX0 : Hid (bits .xor .i64 (a.length : Int) (b.length : Int) = ((Da.dfN a b 0 : Nat) : Int)) := Lh (Gf.xor64 _ _ (by omega) (by omega))
 have HA := Lh hA
 have HB := Lh hB
 obtain ⟨m, hm⟩ : ∃ m, min a.length b.length = m := ⟨_, rfl⟩
 have hmi : min (a.length : Int) (b.length : Int) = (m : Int) := by omega
 have HM := Lh hm
 clear hA hB hm
 go_enter Tryz.func104, Tryz.ntmps104
 go_wp2_with (first | rw [HX0.out])
 case inl h =>
  have HL : Hid (min a.length b.length = b.length) := Lh (by omega)
  have HX1 : Hid (Sa1 a b w (.int .i64 (Da.dfN a b 0 : Nat)) (.int .i64 0) w) := Lh ⟨0, Nat.zero_le _, rfl, rfl, Below.refl _ _⟩
  go_loopw [5, 17] (fun d i wr => Sa1 a b w d i wr) (fun d i _ => b.length - (intOf i).toNat)
  case atStart => exact HX1.out
  case round =>
   rename World => X1
   obtain ⟨n, hn, rfl, rfl, hB1⟩ := hrel
   by_cases hlt : n < b.length
   ·have hd1 : decide ((n : Int) < (b.length : Int)) = true := by simpa using hlt
    have hla : n < a.length := by omega
    have hlb : n < b.length := by omega
    obtain ⟨ba, fa, rfl, hba, hca⟩ := (HA.out.later hB1).cells (by rw [bytesV_length]; omega)
    obtain ⟨bb, fb, rfl, hbb, hcb⟩ := (HB.out.later hB1).cells (by rw [bytesV_length]; omega)
    obtain ⟨x, hx⟩ : ∃ x, a.getD n 0 = x := ⟨_, rfl⟩
    obtain ⟨y, hy⟩ : ∃ y, b.getD n 0 = y := ⟨_, rfl⟩
    have hc1 : X1.cell? ⟨ba, fa + n, none⟩ = some (.int .u8 (x.toNat : Int)) := hca n _ (by rw [bytesV_get _ _ hla, hx])
    have hc2 : X1.cell? ⟨bb, fb + n, none⟩ = some (.int .u8 (y.toNat : Int)) := hcb n _ (by rw [bytesV_get _ _ hlb, hy])
    have hX : bits .xor .u8 (x.toNat : Int) (y.toNat : Int) = ((x ^^^ y).toNat : Int) := by
     rw [u8_xor_nat _ _ (UInt8.toNat_lt _) (UInt8.toNat_lt _), UInt8.toNat_xor]
    obtain ⟨z, hz⟩ : ∃ z, (x ^^^ y).toNat = z := ⟨_, rfl⟩
    obtain ⟨q, hq⟩ : ∃ q, Da.dfN a b n = q := ⟨_, rfl⟩
    have hO : bits .or .i64 (q : Int) (z : Int) = ((q ||| z : Nat) : Int) := or64 _ _ (by rw [<- hq]; exact Da.dfN_lt a b (by omega) (by omega) n) (by rw [<- hz]; exact Nat.lt_trans (UInt8.toNat_lt _) (by decide))
    have hzl : z < 256 := by rw [<- hz]; exact UInt8.toNat_lt _
    have hQ : Da.dfN a b (n + 1) = q ||| z := by rw [Da.dfN, hq, hx, hy, hz]
    rw [hz] at hX
    have HN : Hid (∀ nq, Sa1 a b w (.int .i64 ((q ||| z : Nat) : Int)) (.int .i64 ((n : Int) + 1)) (X1.drewN nq)) := Lh fun nq => ⟨n + 1, by omega, by go_num, by rw [hQ], Ks hB1 (Kit.dn' X1 nq)⟩
    rw [hq]
    have hWZ : IntKind.i64.wrap (z : Int) = (z : Int) := by rw [IntKind.wrap_i64]; omega
    clear hx hy hz hq hQ hca hcb hB1 HA HB hzl
    go_wp2_with fail
    go_quiet (fail)
    go_wp2_with fail
    exact ⟨HN.out nq, by simp [intOf]; omega⟩
   ·obtain rfl : n = b.length := by omega
    have hE : (((Da.dfN a b b.length : Nat) : Int) == 0) = (a == b) := by
     have := Da.dfN_eq a b
     rw [HL.out] at this
     by_cases e : a = b
     ·rw [this.2 e]; subst e; simp
     ·have h0 : Da.dfN a b b.length ≠ 0 := fun h => e (this.1 h)
      have h1 : (((Da.dfN a b b.length : Nat) : Int) == 0) = false := by simp; exact_mod_cast h0
      rw [h1]; exact (beq_eq_false_iff_ne.2 e).symm
    obtain ⟨r, hr⟩ : ∃ r, (a == b) = r := ⟨_, rfl⟩
    obtain ⟨q, hq⟩ : ∃ q, Da.dfN a b b.length = q := ⟨_, rfl⟩
    rw [hr, hq] at hE
    have HR := Lh hr
    have HB1 := Lh hB1
    rw [hq]
    clear hr hq hB1
    go_wp2_with fail
    go_ret
    exact ⟨by rw [HR.out]; rfl, HB1.out⟩
 case inr h =>
  have HL : Hid (min a.length b.length = a.length) := Lh (by omega)
  have HX1 : Hid (Sa1 a b w (.int .i64 (Da.dfN a b 0 : Nat)) (.int .i64 0) w) := Lh ⟨0, Nat.zero_le _, rfl, rfl, Below.refl _ _⟩
  go_loopw [5, 17] (fun d i wr => Sa1 a b w d i wr) (fun d i _ => a.length - (intOf i).toNat)
  case atStart => exact HX1.out
  case round =>
   rename World => X1
   obtain ⟨n, hn, rfl, rfl, hB1⟩ := hrel
   by_cases hlt : n < a.length
   ·have hd1 : decide ((n : Int) < (a.length : Int)) = true := by simpa using hlt
    have hla : n < a.length := by omega
    have hlb : n < b.length := by omega
    obtain ⟨ba, fa, rfl, hba, hca⟩ := (HA.out.later hB1).cells (by rw [bytesV_length]; omega)
    obtain ⟨bb, fb, rfl, hbb, hcb⟩ := (HB.out.later hB1).cells (by rw [bytesV_length]; omega)
    obtain ⟨x, hx⟩ : ∃ x, a.getD n 0 = x := ⟨_, rfl⟩
    obtain ⟨y, hy⟩ : ∃ y, b.getD n 0 = y := ⟨_, rfl⟩
    have hc1 : X1.cell? ⟨ba, fa + n, none⟩ = some (.int .u8 (x.toNat : Int)) := hca n _ (by rw [bytesV_get _ _ hla, hx])
    have hc2 : X1.cell? ⟨bb, fb + n, none⟩ = some (.int .u8 (y.toNat : Int)) := hcb n _ (by rw [bytesV_get _ _ hlb, hy])
    have hX : bits .xor .u8 (x.toNat : Int) (y.toNat : Int) = ((x ^^^ y).toNat : Int) := by
     rw [u8_xor_nat _ _ (UInt8.toNat_lt _) (UInt8.toNat_lt _), UInt8.toNat_xor]
    obtain ⟨z, hz⟩ : ∃ z, (x ^^^ y).toNat = z := ⟨_, rfl⟩
    obtain ⟨q, hq⟩ : ∃ q, Da.dfN a b n = q := ⟨_, rfl⟩
    have hO : bits .or .i64 (q : Int) (z : Int) = ((q ||| z : Nat) : Int) := or64 _ _ (by rw [<- hq]; exact Da.dfN_lt a b (by omega) (by omega) n) (by rw [<- hz]; exact Nat.lt_trans (UInt8.toNat_lt _) (by decide))
    have hzl : z < 256 := by rw [<- hz]; exact UInt8.toNat_lt _
    have hQ : Da.dfN a b (n + 1) = q ||| z := by rw [Da.dfN, hq, hx, hy, hz]
    rw [hz] at hX
    have HN : Hid (∀ nq, Sa1 a b w (.int .i64 ((q ||| z : Nat) : Int)) (.int .i64 ((n : Int) + 1)) (X1.drewN nq)) := Lh fun nq => ⟨n + 1, by omega, by go_num, by rw [hQ], Ks hB1 (Kit.dn' X1 nq)⟩
    rw [hq]
    have hWZ : IntKind.i64.wrap (z : Int) = (z : Int) := by rw [IntKind.wrap_i64]; omega
    clear hx hy hz hq hQ hca hcb hB1 HA HB hzl
    go_wp2_with fail
    go_quiet (fail)
    go_wp2_with fail
    exact ⟨HN.out nq, by simp [intOf]; omega⟩
   ·obtain rfl : n = a.length := by omega
    have hE : (((Da.dfN a b a.length : Nat) : Int) == 0) = (a == b) := by
     have := Da.dfN_eq a b
     rw [HL.out] at this
     by_cases e : a = b
     ·rw [this.2 e]; subst e; simp
     ·have h0 : Da.dfN a b a.length ≠ 0 := fun h => e (this.1 h)
      have h1 : (((Da.dfN a b a.length : Nat) : Int) == 0) = false := by simp; exact_mod_cast h0
      rw [h1]; exact (beq_eq_false_iff_ne.2 e).symm
    obtain ⟨r, hr⟩ : ∃ r, (a == b) = r := ⟨_, rfl⟩
    obtain ⟨q, hq⟩ : ∃ q, Da.dfN a b a.length = q := ⟨_, rfl⟩
    rw [hr, hq] at hE
    have HR := Lh hr
    have HB1 := Lh hB1
    rw [hq]
    clear hr hq hB1
    go_wp2_with fail
    go_ret
    exact ⟨by rw [HR.out]; rfl, HB1.out⟩
theorem kright_any (k : List UInt8) (b : Nat) (t : List UInt8) (ot : Option Addr) (ct : Nat) (bs : List (List UInt8)) (o : Option Addr) (c : Nat) (w : World) (hA : Arr w b 175 (bytesV (Da.fil k)))
    (hT : RowIs w ot (bytesV t) ct) (htl : t.length <= 60000) (hR : RbIs w o bs c) (hV : Cds w) (hl : bs.flatten.length <= 800000) (hn : bs.length <= 1000000) :
    Calls Tryz.prog 58 #[.pointer (some ⟨b, 0, none⟩), .slice ot t.length ct, .slice o bs.length c] w fun e w' =>
      e = .returned (.bool (t == (Da.hmac k bs.flatten).take 8)) /\ Below w.heap.size w w' := by
 have TG := Lh (tag_any k b bs o c w hA hR hV hl hn)
 obtain ⟨h, hh⟩ : ∃ h, (Da.hmac k bs.flatten).take 8 = h := ⟨_, rfl⟩
 have hhl : h.length = 8 := by rw [<- hh, List.length_take, Da.hmac_length]; rfl
 rw [hh] at TG ⊢
 have SM : Hid (∀ (g : Nat) (w' : World), RowIs w' (some ⟨g, 0, none⟩) (bytesV h) 8 -> Below w.heap.size w w' -> Calls Tryz.prog 104 #[.slice ot t.length ct, .slice (some ⟨g, 0, none⟩) 8 8] w' fun e w2 => e = .returned (.bool (t == h)) /\ Below w'.heap.size w' w2) := Lh fun g w' hr hb => by
  have := same_any t h ot ct (some ⟨g, 0, none⟩) 8 w' (hT.later hb) hr htl (by omega)
  rw [hhl] at this
  exact this
 clear hA hT hR hV hh hhl
 go_enter Tryz.func58, Tryz.ntmps58
 go_wp2_with fail
 refine TG.out.mono ?_
 rintro e W1 ⟨g, rfl, hr, hb⟩
 go_wp2_with fail
 refine (SM.out g W1 hr hb).mono ?_
 rintro e W2 ⟨rfl, hb2⟩
 go_wp2_with fail
 go_ret
 exact ⟨rfl, Ks hb hb2⟩
end Go.Proofs.YtffheegeaghfjaaGreatDoor

namespace Go.Proofs.YtffheegeaghfjaaGreatDoor
open Go.RowKit
end Go.Proofs.YtffheegeaghfjaaGreatDoor

namespace Go.Proofs.YtffheegeaghfjaaGreatDoor
open Go.RowKit
end Go.Proofs.YtffheegeaghfjaaGreatDoor
namespace Go.Proofs.YtffheegeaghfjaaGreatDoor.Da
end Go.Proofs.YtffheegeaghfjaaGreatDoor.Da
namespace Go.Proofs.YtffheegeaghfjaaGreatDoor
open Go.RowKit
end Go.Proofs.YtffheegeaghfjaaGreatDoor

namespace Go.Proofs.YtffheegeaghfjaaGreatDoor
open Go.RowKit
end Go.Proofs.YtffheegeaghfjaaGreatDoor

namespace Go.Proofs.YtffheegeaghfjaaGreatDoor
open Go.RowKit
end Go.Proofs.YtffheegeaghfjaaGreatDoor

namespace Go.Proofs.YtffheegeaghfjaaGreatDoor
open Go.RowKit
end Go.Proofs.YtffheegeaghfjaaGreatDoor

namespace Go.Proofs.YtffheegeaghfjaaGreatDoor
open Go.RowKit
section
variable {P : Program} {md : Region.Mode} {ops : Array Oper} {Q : Exit -> Act -> World -> Prop} {S : World -> Prop} {fuel : Nat} {listed : Array Bool} {a : Act} {w : World}
end
end Go.Proofs.YtffheegeaghfjaaGreatDoor
