/- YS -/
import Derived.Test.YtffheegeaghfjaaGreatDoorVr2
import Derived.Test.YtffheegeaghfjaaGreatDoorUx16
import Derived.Test.YtffheegeaghfjaaGreatDoorPkx
import Derived.Test.YtffheegeaghfjaaGreatDoorCh16
import Derived.Test.YtffheegeaghfjaaGreatDoorYHPS
import Derived.Test.YtffheegeaghfjaaGreatDoorYPST
import Derived.Test.YtffheegeaghfjaaGreatDoorYHS
import Derived.Test.YtffheegeaghfjaaGreatDoorYPS
set_option linter.unusedVariables false
set_option linter.unusedSimpArgs false
set_option maxRecDepth 100000
set_option maxHeartbeats 8000000
namespace Go.Proofs.YtffheegeaghfjaaGreatDoor
open Go.ChangeShapes Go.WideShapes Go.ChangeAt Go.RowKit
def marks : List UInt8 := [201, 202, 203, 204, 205, 206]
def MarkedAt (W : World) (B : Nat) (z : List UInt8) : Prop := W.heap[B]? = some (.cells (bytesV (z ++ marks)).toArray 5 (0, 0))
theorem MarkedAt.later {W W' : World} {B : Nat} {z : List UInt8} (h : MarkedAt W B z) (hb : Below W.heap.size W W') : MarkedAt W' B z := by
 unfold MarkedAt at *
 rw [hb.block B (aE.1 h).1]; exact h
theorem MarkedAt.lt {W : World} {B : Nat} {z : List UInt8} (h : MarkedAt W B z) : B < W.heap.size := (aE.1 h).1
theorem MarkedAt.cell {W : World} {B : Nat} {z : List UInt8} (h : MarkedAt W B z) (i : Nat) : W.cell? ⟨B, i, none⟩ = (bytesV (z ++ marks))[i]? := by
 unfold World.cell?; rw [h]; simp
theorem MarkedAt.row {W : World} {B : Nat} {z : List UInt8} (h : MarkedAt W B z) (hl : z.length + 6 <= maxLen) : RowIs W (some ⟨B, 0, none⟩) (bytesV z) (z.length + 6) :=
 ⟨by simp, hl, (fun h => by cases h), fun _ => ⟨B, 0, rfl, h.lt, fun i v hv => by
  rw [Nat.zero_add, h.cell]
  have hi := (List.getElem?_eq_some_iff.1 hv).1
  unfold bytesV at *
  rw [List.map_append, List.getElem?_append_left hi]; exact hv⟩⟩
def BytesEnd (w : World) (z : List UInt8) (e : Ending) (w' : World) : Prop :=
 ∃ B, e = .returned (.slice (some ⟨B, 0, none⟩) z.length (z.length + 6)) /\ Below w.heap.size w w' /\ w.heap.size <= B /\ MarkedAt w' B z
theorem bytesEnd_of {w w1 : World} {z : List UInt8} {g n : Nat} (hown : w1.ownsRow w.heap.size 5 1 (.slice (some ⟨g, 0, none⟩) (z.length + 6) (z.length + 6)) (z.length + 6) (bytesV z ++ bytesV marks)) (hg : w.heap.size <= g) (hb : Below w.heap.size w w1) :
    BytesEnd w z (.returned (.slice (some ⟨g, 0, none⟩) z.length (z.length + 6))) w1 := by
 refine ⟨g, rfl, hb, hg, ?_⟩
 obtain ⟨hl, hx⟩ := hown
 rcases hx with ⟨h, _⟩ | ⟨g', cap, cur, h, _, hh, _, _, hcur, htake⟩
 ·cases h
 ·injection h with h1 h2 h3
  injection h1 with h1
  injection h1 with h1
  subst h1; subst h3
  unfold MarkedAt
  rw [hh]
  have e : cur.toList = bytesV z ++ bytesV marks := by
   rw [<- htake, List.take_of_length_le (by simp [hcur])]
  have e2 : cur = (bytesV (z ++ marks)).toArray := by
   apply Array.ext'
   rw [e]; simp [bytesV]
  rw [e2]
theorem bytes_any (z : List UInt8) (o : Option Addr) (c : Nat) (w : World) (h : RowIs w o (bytesV z) c) (hz : z.length <= 140737488355322) :
    Calls Tryz.prog 9 #[.slice o z.length c] w (BytesEnd w z) := by
 obtain ⟨i0, hi, hz0, hz1, hz2⟩ := info_parts info_u8
 have hm := h.cap
 have hle := h.le
 simp only [bytesV_length] at hle
 unfold maxLen at hm
 have hnone : o = none -> z.length = 0 /\ c = 0 := fun e => ⟨by have := h.nil e; omega, h.nil e⟩
 have HN := Lh hnone
 have HR := Lh h
 clear h hnone
 go_enter Tryz.func9, Tryz.ntmps9
 go_wp2_with (at_make; refine wpList_make_own _ rfl _ _ 22 rfl w.heap.size 5 i0 (.int .u8 0) 1 Tryz.underlying22 hi hz0 hz1 _ _ _ (z.length + 6) rfl rfl (by omega) (by rw [hz2]; omega) (by unfold maxLen; omega) (Nat.le_refl _) ?_)
 intro w0 hown0 hgrow0
 have hb0 : Below w.heap.size w w0 := (Below.refl _ _).grown hgrow0 (Nat.le_refl _) (fun k h => by cases h)
 have HB0 := Lh hb0
 have HR0 := Lh (HR.out.later hb0)
 clear hgrow0 hb0
 go_wp2_with (at_builtin; refine wpList_append_fits_any _ rfl (.tmp 7) (.tmp 8) 22 rfl w.heap.size 5 i0 1 Tryz.underlying22 hi hz1 w.heap.size 0 (z.length + 6) [] rfl hown0 o z.length c (bytesV z) rfl (by simp) HN.out HR0.out.adds (bytesV_one z) (by omega) ?_)
 intro w1 hown1 hgrow1
 have hb1 : Below w.heap.size w w1 := HB0.out.grown hgrow1 HB0.out.size (fun k h => by cases h; exact Nat.le_refl _)
 have HB1 := Lh hb1
 clear hgrow1 hb1 hown0
 go_wp2_with (at_builtin; refine wpList_append_fits _ rfl (.tmp 9) (.tmp 10) 22 rfl w.heap.size 5 i0 1 Tryz.underlying22 hi hz1 w.heap.size z.length (z.length + 6) (bytesV z) rfl (hown1.alloc _) ⟨w1.heap.size, 0, none⟩ 6 6 (bytesV marks) rfl (by rfl) ?c1 (bytesV_one marks) (by omega) ?_)
 case c1 =>
  intro j u hj
  rw [add_plain]
  have hlt := (List.getElem?_eq_some_iff.1 hj).1
  match j, hlt with
  | 0, _ | 1, _ | 2, _ | 3, _ | 4, _ | 5, _ => simp [bytesV, marks] at hj; subst hj; simp
  | n + 6, h => exact absurd (show n + 6 < 6 from by simpa [bytesV, marks] using h) (by omega)
 intro w2 hown2 hgrow2
 have hb2 : Below w.heap.size w w2 := (HB1.out.alloc HB1.out.size _).grown hgrow2 (by have := HB1.out.size; simp; omega) (fun k h => by cases h; exact Nat.le_refl _)
 have HB2 := Lh hb2
 have HO := Lh hown2
 clear hgrow2 hb2 hown1 hown2
 go_wp2
 go_ret
 exact bytesEnd_of (n := 0) HO.out (Nat.le_refl _) HB2.out
def KeptAt (w : World) (i : Value) (wr : World) : Prop := ∃ k : Nat, k <= 6 /\ i = .int .i64 k /\ Kit.Dn w wr
theorem marks_get (k : Nat) (hk : k < 6) : ((marks.getD k 0).toNat : Int) = 201 + k := by
 match k, hk with
 | 0, _ | 1, _ | 2, _ | 3, _ | 4, _ | 5, _ => rfl
 | n + 6, h => omega
theorem kept_any (z : List UInt8) (B : Nat) (o : Option Addr) (c : Nat) (w : World) (hM : MarkedAt w B z) (hR : RowIs w o (bytesV z) c) (hz : z.length <= 140737488355322) :
    Calls Tryz.prog 14 #[.slice (some ⟨B, 0, none⟩) z.length (z.length + 6), .slice o z.length c] w fun e w' => e = .returned (.bool true) /\ Kit.Dn w w' := by
 have k1 : ∀ nq, (convert 22 9 (.slice (some ⟨B, 0, none⟩) z.length (z.length + 6))).run Tryz.prog (w.drewN nq) = .ok (.string ⟨z.toArray⟩) (w.drewN nq) := fun nq =>
  run_string ((hM.row (by unfold maxLen; omega)).later (Kit.dn' w nq)) Tryz.underlying22 Tryz.underlying5 Tryz.underlying9 _
 have k2 : ∀ nq, (convert 22 9 (.slice o z.length c)).run Tryz.prog (w.drewN nq) = .ok (.string ⟨z.toArray⟩) (w.drewN nq) := fun nq =>
  run_string (hR.later (Kit.dn' w nq)) Tryz.underlying22 Tryz.underlying5 Tryz.underlying9 _
 have HM := Lh hM
 clear hM hR
 have hlt : ¬ ((z.length + 6 : Int) < z.length + 6) := by omega
 go_enter Tryz.func14, Tryz.ntmps14
 go_wp2
 go_quiet (fail)
 go_wp2
 go_loopw [6] (fun i wr => KeptAt w i wr) (fun i _ => 6 - (intOf i).toNat)
 case atStart => exact ⟨0, by decide, rfl, ⟨_, rfl⟩⟩
 case round =>
  obtain ⟨k, hk, rfl, hd⟩ := hrel
  by_cases hk6 : k < 6
  ·have hc : wr.cell? ⟨B, z.length + k, none⟩ = some (.int .u8 (201 + k)) := by
    rw [(HM.out.later hd.below).cell, bytesV_get _ _ (by simp [marks]; omega), <- marks_get k hk6]
    have e : (z ++ marks)[z.length + k]? = marks[k]? := by rw [List.getElem?_append_right (by omega)]; congr 1; omega
    simp [List.getD_eq_getElem?_getD, e]
   have HD := Lh hd
   have ht : (((201 : Int) + k) % 256) = 201 + k := by omega
   clear hd
   go_wp2
   go_roundw
   case rel => exact ⟨k + 1, by omega, by go_num, HD.out⟩
   case measure => simp [intOf]; omega
  ·obtain rfl : k = 6 := by omega
   go_wp2
   go_ret
   exact ⟨rfl, hd⟩
end Go.Proofs.YtffheegeaghfjaaGreatDoor

namespace Go.Proofs.YtffheegeaghfjaaGreatDoor
open Go.RowKit
namespace Gf
theorem part_xor (p q i x : Nat) : part (p ^^^ q) i x = part p i x ^^^ part q i x := by
 unfold part
 rw [Nat.testBit_xor]
 cases p.testBit i <;> cases q.testBit i <;> simp
theorem rd_xor (n p q : Nat) : rd n (p ^^^ q) = rd n p ^^^ rd n q := by
 induction n generalizing p q with
 | zero => rfl
 | succ n ih =>
  unfold rd
  rw [part_xor, <- ih]
  congr 1
  ac_rfl
theorem rd_zero (n : Nat) : rd n 0 = 0 := by
 induction n with
 | zero => rfl
 | succ n ih => unfold rd; simp [part, ih]
theorem rd_part (n b i x : Nat) : rd n (part b i x) = part b i (rd n x) := by
 unfold part
 split
 ·rfl
 ·exact rd_zero n
theorem dbls_succ (n a : Nat) : dbls n (dbl a) = dbls (n + 1) a := by
 induction n with
 | zero => rfl
 | succ n ih => rw [dbls, ih]; rfl
theorem mulN_succ (n a b : Nat) : mulN (n + 1) a b = mulN n a b ^^^ part b n (dbls n a) := by
 induction n generalizing a b with
 | zero =>
  simp only [mulN, part, dbls, Nat.testBit_zero, Nat.xor_zero, Nat.zero_xor, decide_eq_true_eq]
 | succ n ih =>
  rw [mulN, ih, mulN, dbls_succ, <- Nat.xor_assoc]
  unfold part
  rw [Nat.testBit_succ]
theorem rd_dbls (a n : Nat) (ha : a < 256) (hn : n < 8) : rd 7 (a * 2 ^ n) = dbls n a := by
 have h : (List.range 8).all (fun n => (List.range 256).all fun a => rd 7 (a * 2 ^ n) == dbls n a) = true := by decide +kernel
 simpa using all_of (all_of h n hn) a ha
theorem rd_cl (a b n : Nat) (ha : a < 256) (hn : n <= 8) : rd 7 (cl a b n) = mulN n a b := by
 induction n with
 | zero => exact rd_zero 7
 | succ n ih => rw [cl, rd_xor, rd_part, rd_dbls a n ha (by omega), ih (by omega), mulN_succ]
theorem cl_rd (a b : Nat) (ha : a < 256) : rd 7 (cl a b 8) = mul a b := rd_cl a b 8 ha (Nat.le_refl _)
theorem part_lt (b i x m : Nat) (h : x < 2 ^ m) : part b i x < 2 ^ m := by
 unfold part
 split
 ·exact h
 ·exact Nat.two_pow_pos m
theorem shift_lt (a n : Nat) (ha : a < 512) (hn : n < 8) : a * 2 ^ n < 2 ^ 16 := by
 have h1 : 2 ^ n <= 2 ^ 7 := Nat.pow_le_pow_right (by decide) (by omega)
 have h2 : a * 2 ^ n <= 511 * 2 ^ 7 := Nat.mul_le_mul (by omega) h1
 omega
theorem cl_lt (a b n : Nat) (ha : a < 256) (hn : n <= 8) : cl a b n < 2 ^ 16 := by
 induction n with
 | zero => exact Nat.two_pow_pos 16
 | succ n ih => exact Nat.xor_lt_two_pow (ih (by omega)) (part_lt _ _ _ _ (shift_lt a n (by omega) (by omega)))
theorem bit_test (b i : Nat) : (((b : Int) / 2 ^ i).tmod 2 == 1) = b.testBit i := by
 have h : ((b : Int) / 2 ^ i).tmod 2 = ((b / 2 ^ i % 2 : Nat) : Int) := by
  rw [show ((b : Int) / 2 ^ i) = ((b / 2 ^ i : Nat) : Int) by simp]
  rfl
 rw [h, Nat.testBit_eq_decide_div_mod_eq, Bool.eq_iff_iff]
 simp only [beq_iff_eq, decide_eq_true_eq]
 omega
theorem shl_int (a i : Nat) : (a : Int) * 2 ^ i = ((a * 2 ^ i : Nat) : Int) := by simp
end Gf
def ClAt (a b : Nat) (p i : Value) : Prop := ∃ i' : Nat, i' <= 8 /\ p = .int .i64 (Gf.cl a b i' : Nat) /\ i = .int .i64 i'
def RdAt (a b : Nat) (p i : Value) : Prop := ∃ p' n : Nat, n <= 7 /\ p' < 65536 /\ Gf.rd n p' = Gf.mul a b /\ p = .int .i64 p' /\ i = .int .i64 ((n : Int) + 7)
theorem rmul_nat (a b : Nat) (ha : a < 256) (hb : b < 256) (w : World) :
    Calls Tryz.prog 127 #[.int .u8 (a : Int), .int .u8 (b : Int)] w fun e w' => e = .returned (.int .u8 (Gf.mul a b : Nat)) /\ w = w' := by
 have hmul := Gf.mul_lt a b ha
 go_enter Tryz.func127, Tryz.ntmps127
 go_wp2
 go_loop [5, 6] (fun p i => ClAt a b p i) (fun _ i => 8 - (intOf i).toNat)
 case atStart => exact ⟨0, by decide, rfl, rfl⟩
 case round =>
  obtain ⟨i, hi, rfl, rfl⟩ := hrel
  have hp := Gf.cl_lt a b i ha hi
  by_cases hlt : i < 8
  ·have hs := Gf.shift_lt a i (by omega) hlt
   have ht := Gf.bit_test b i
   have hw : wrap64 ((a : Int) * 2 ^ i) = ((a * 2 ^ i : Nat) : Int) := by rw [Gf.shl_int]; exact IntWalk.wrap64_in _ ⟨by omega, by omega⟩
   have HX : Hid (bits .xor .i64 (Gf.cl a b i : Nat) (wrap64 ((a : Int) * 2 ^ i)) = ((Gf.cl a b i ^^^ (a * 2 ^ i) : Nat) : Int)) := Lh (by rw [hw]; exact Gf.xor64 _ _ hp hs)
   clear hw
   by_cases hbit : b.testBit i = true
   ·rw [hbit] at ht
    have HN : Hid (Gf.cl a b (i + 1) = Gf.cl a b i ^^^ (a * 2 ^ i)) := Lh (by simp [Gf.cl, Gf.part, hbit])
    clear hbit hs
    go_wp2
    go_round
    case rel => exact ⟨i + 1, by omega, by rw [HX.out, HN.out], by go_num⟩
    case measure => simp [intOf]; omega
   ·have hbf : b.testBit i = false := by simpa using hbit
    rw [hbf] at ht
    have HN : Hid (Gf.cl a b (i + 1) = Gf.cl a b i) := Lh (by simp [Gf.cl, Gf.part, hbf])
    clear hbit hbf hs
    go_wp2
    go_round
    case rel => exact ⟨i + 1, by omega, by rw [HN.out], by go_num⟩
    case measure => simp [intOf]; omega
  ·obtain rfl : i = 8 := by omega
   have HR := Lh (Gf.cl_rd a b ha)
   generalize hc : Gf.cl a b 8 = c0 at *
   clear hc
   go_wp2
   go_loop [5, 7] (fun p i => RdAt a b p i) (fun _ i => (intOf i).toNat - 7)
   case atStart => exact ⟨_, 7, by decide, hp, HR.out, rfl, rfl⟩
   case round =>
    obtain ⟨p, n, hn, hp2, hr, rfl, rfl⟩ := hrel
    have HQ := Lh hr
    clear hr
    by_cases h0 : n = 0
    ·subst h0
     have hpe : (p : Int) = (Gf.mul a b : Nat) := by have h := HQ.out; simp only [Gf.rd] at h; rw [h]
     have HE := Lh hpe
     have hp3 : (p : Int) < 256 := by omega
     clear hpe
     go_wp2
     go_ret
     exact ⟨ret_int HE.out, rfl⟩
    ·obtain ⟨m, rfl⟩ : ∃ m, n = m + 1 := ⟨n - 1, by omega⟩
     have hs := Gf.shift_lt 285 m (by omega) (by omega)
     have ht := Gf.bit_test p (m + 1 + 7)
     have hw : wrap64 ((285 : Int) * 2 ^ m) = ((285 * 2 ^ m : Nat) : Int) := by rw [show ((285 : Int) * 2 ^ m) = ((285 * 2 ^ m : Nat) : Int) by simp]; exact IntWalk.wrap64_in _ ⟨by omega, by omega⟩
     have HX : Hid (bits .xor .i64 (p : Int) (wrap64 ((285 : Int) * 2 ^ m)) = ((p ^^^ (285 * 2 ^ m) : Nat) : Int)) := Lh (by rw [hw]; exact Gf.xor64 _ _ hp2 hs)
     have hpx : p ^^^ (285 * 2 ^ m) < 65536 := Nat.xor_lt_two_pow (n := 16) hp2 hs
     have hm8 : 8 + m = m + 1 + 7 := by omega
     clear hw
     by_cases hbit : p.testBit (m + 1 + 7) = true
     ·rw [hbit] at ht
      have HN : Hid (Gf.rd m (p ^^^ (285 * 2 ^ m)) = Gf.mul a b) := Lh (by rw [<- HQ.out, Gf.rd, hm8, Gf.part, if_pos hbit])
      clear hbit hs hm8
      go_wp2
      go_round
      case rel => exact ⟨_, m, by omega, hpx, HN.out, by rw [HX.out], by go_num⟩
      case measure => simp [intOf]; omega
     ·have hbf : p.testBit (m + 1 + 7) = false := by simpa using hbit
      rw [hbf] at ht
      have HN : Hid (Gf.rd m p = Gf.mul a b) := Lh (by rw [<- HQ.out, Gf.rd, hm8, Gf.part, if_neg hbit, Nat.xor_zero])
      clear hbit hbf hs hm8
      go_wp2
      go_round
      case rel => exact ⟨p, m, by omega, hp2, HN.out, rfl, by go_num⟩
      case measure => simp [intOf]; omega
end Go.Proofs.YtffheegeaghfjaaGreatDoor
namespace Go.Proofs.YtffheegeaghfjaaGreatDoor
open Go.RowKit
end Go.Proofs.YtffheegeaghfjaaGreatDoor

namespace Go.Proofs.YtffheegeaghfjaaGreatDoor
open Go.RowKit Go.Shelf
attribute [local go_sem] Oper.semAt_some
end Go.Proofs.YtffheegeaghfjaaGreatDoor
namespace Go.Proofs.YtffheegeaghfjaaGreatDoor
open Go.RowKit
theorem u8c (x y : UInt8) : bits .xor .u8 (x.toNat : Int) (y.toNat : Int) = ((x ^^^ y).toNat : Int) := by
 rw [u8_xor_nat _ _ (UInt8.toNat_lt x) (UInt8.toNat_lt y), UInt8.toNat_xor]
attribute [local go_sem] Oper.semAt_some
end Go.Proofs.YtffheegeaghfjaaGreatDoor
namespace Go.Proofs.YtffheegeaghfjaaGreatDoor
open Go.RowKit
attribute [local go_sem] Oper.semAt_some
end Go.Proofs.YtffheegeaghfjaaGreatDoor
namespace Go.Proofs.YtffheegeaghfjaaGreatDoor
open Go.RowKit
attribute [local go_sem] Oper.semAt_some
end Go.Proofs.YtffheegeaghfjaaGreatDoor
namespace Go.Proofs.YtffheegeaghfjaaGreatDoor
open Go.RowKit
end Go.Proofs.YtffheegeaghfjaaGreatDoor

namespace Go.Proofs.YtffheegeaghfjaaGreatDoor
open Go.RowKit
theorem wp_append_row {o : Oper} {a : Act} {w : World} {K : Act -> World -> Prop} {Q : Exit -> Act -> World -> Prop} (s x : Operand)
    (ho : o.op = .call { callee := .builtin .append, args := #[s, x], argTypes := #[22, 22] })
    (base : Nat) (v : Value) (n : Nat) (z : List UInt8) (hs : a.eval s = v) (hown : w.ownsRow base 5 1 v n (bytesV z))
    (ad : Option Addr) (m c : Nat) (y : List UInt8) (hx : a.eval x = .slice ad m c) (hm : m = y.length) (hrow : RowIs w ad (bytesV y) c) (hl : n + m <= 10000000) (hbase : base <= w.heap.size)
    (h : ∀ v' w', w'.ownsRow base 5 1 v' (n + m) (bytesV (z ++ y)) -> w.grownBy w' v.ownBlock -> K (a.put o.dst v') w') : o.wp Tryz.prog a w K Q := by
 obtain ⟨i0, hi, hz0, hz1, hz2⟩ := info_parts info_u8
 have e : bytesV (z ++ y) = bytesV z ++ bytesV y := by simp [bytesV]
 rw [e] at h
 subst hm
 cases ad with
 | none =>
  have h0 := hrow.nil rfl
  have hle := hrow.le
  simp only [bytesV_length] at hle
  obtain rfl : y = [] := List.eq_nil_of_length_eq_zero (by omega)
  subst h0
  have hrun := run_append_owned_none (P := Tryz.prog) (w := w) base 22 o.type 5 i0 1 Tryz.underlying22 hi v n (bytesV z) hown
  unfold Oper.wp
  simp [execOp, ho, resolve, invoke, builtin, hs, hx, hrun, Result.andThen]
  exact h v w (by simpa [bytesV] using hown) ⟨rfl, rfl, rfl, Nat.le_refl _, fun _ _ _ => rfl⟩
 | some ad =>
  refine wp_append_own_wide w s x 22 ho base 5 i0 (.int .u8 0) 1 1 Tryz.underlying22 hi hz0 hz1 hz2 rfl (by decide) v n (bytesV z) hs hown ad y.length c (bytesV y) hx (by simp) (hrow.adds ad rfl) (bytesV_one y) (by unfold maxLen; omega) (by omega) hbase ?_
  intro v' w' h1 h2 _
  exact h v' w' h1 h2
theorem rmul_u8 (x y : UInt8) (v : World) : Calls Tryz.prog 127 #[.int .u8 (x.toNat : Int), .int .u8 (y.toNat : Int)] v fun e w' => e = .returned (.int .u8 ((Gf.gm x y).toNat : Int)) /\ w' = v := by
 rw [Gf.gm_nat]; exact (rmul_nat _ _ (UInt8.toNat_lt _) (UInt8.toNat_lt _) v).mono fun _ _ h => ⟨h.1, h.2.symm⟩
theorem tab_succ (F : Nat -> UInt8) (k : Nat) : tab F k ++ [F k] = tab F (k + 1) := by simp [tab, List.range_succ]
theorem co_nxAt (G : List UInt8) (r : UInt8) (i m : Nat) (h : m < G.length + 1) : co (nxAt G r i) m = (if m < i then Gf.gm (co G m) r else 0) ^^^ (if 1 <= m /\ m <= i then co G (m - 1) else 0) := co_tab _ _ _ h
theorem nxAt_zero (G : List UInt8) (r : UInt8) : nxAt G r 0 = List.replicate (G.length + 1) 0 := by
 refine list_ext (by simp) fun i hi => ?_
 simp at hi
 rw [co_nxAt _ _ _ _ hi, if_neg (by omega), if_neg (by omega)]
 simp [co, List.getD_eq_getElem?_getD, List.getElem?_replicate, hi]
theorem nxAt_full (G : List UInt8) (r : UInt8) : nxAt G r G.length = nx G r := by
 refine list_ext (by simp [nx]) fun i hi => ?_
 simp at hi
 rw [co_nxAt _ _ _ _ hi, co_nx]
 congr 1
 ·by_cases e : i < G.length
  ·rw [if_pos e]
  ·rw [if_neg e, co_ge (by omega), Gf.zero_gm]
 ·by_cases e : i = 0
  ·rw [if_pos e, if_neg (by omega)]
  ·rw [if_neg e, if_pos (by omega)]
theorem nxAt_one (G : List UInt8) (r : UInt8) (i : Nat) (h : i < G.length) : co (nxAt G r i) i = (if i = 0 then 0 else co G (i - 1)) := by
 rw [co_nxAt _ _ _ _ (by omega), if_neg (by omega), UInt8.zero_xor]
 by_cases e : i = 0
 ·rw [if_pos e, if_neg (by omega)]
 ·rw [if_neg e, if_pos (by omega)]
theorem nxAt_two (G : List UInt8) (r : UInt8) (i : Nat) (h : i < G.length) : co (nxAt G r i) (i + 1) = 0 := by
 rw [co_nxAt _ _ _ _ (by omega), if_neg (by omega), if_neg (by omega)]; rfl
theorem nxAt_step (G : List UInt8) (r : UInt8) (i : Nat) (h : i < G.length) (s : UInt8) (hs : s = co (nxAt G r i) i ^^^ Gf.gm (co G i) r) : ((nxAt G r i).set i s).set (i + 1) (co G i) = nxAt G r (i + 1) := by
 refine list_ext (by simp) fun m hm => ?_
 simp at hm
 rw [co_nxAt _ _ _ _ hm, co_set, co_set]
 by_cases e1 : i + 1 = m
 ·subst e1
  rw [if_pos ⟨rfl, by simp; omega⟩, if_neg (by omega), if_pos (by omega), UInt8.zero_xor, Nat.add_sub_cancel]
 ·rw [if_neg (fun h => e1 h.1)]
  by_cases e2 : i = m
  ·subst e2
   have e3 : (if i < i + 1 then Gf.gm (co G i) r else 0) = Gf.gm (co G i) r := if_pos (by omega)
   have e4 : (if 1 <= i /\ i <= i + 1 then co G (i - 1) else 0) = (if i = 0 then 0 else co G (i - 1)) := by
    by_cases e : i = 0
    ·rw [if_pos e, if_neg (by omega)]
    ·rw [if_neg e, if_pos (by omega)]
   rw [if_pos ⟨rfl, by simp; omega⟩, hs, nxAt_one _ _ _ h, e3, e4, UInt8.xor_comm]
  ·rw [if_neg (fun h => e2 h.1), co_nxAt _ _ _ _ hm]
   congr 1
   ·by_cases e : m < i
    ·rw [if_pos e, if_pos (by omega)]
    ·rw [if_neg e, if_neg (by omega)]
   ·by_cases e : 1 <= m /\ m <= i
    ·rw [if_pos e, if_pos (by omega)]
    ·rw [if_neg e, if_neg (by omega)]
def GnAt (w : World) (v r i : Value) (wr : World) : Prop :=
 ∃ k : Nat, k <= 32 /\ i = .int .i64 k /\ r = .int .u8 ((Gf.al k).toNat : Int) /\ RowV (genL k) v wr /\ Below w.heap.size w wr
def GiAt (G : List UInt8) (r : UInt8) (w : World) (g : Nat) (i : Value) (wr : World) : Prop :=
 ∃ k : Nat, k <= G.length /\ i = .int .i64 k /\ Buf wr g (G.length + 1) (nxAt G r k) /\ Only g w wr
theorem rgen_any (w : World) : Calls Tryz.prog 126 #[] w (Rows (genL 32) w) := by
 have hb0 : Below w.heap.size w (w.alloc (.cells (bytesV [1]).toArray 5)) := (Below.refl _ _).alloc (Nat.le_refl _) _
 have hr0 : RowV (genL 0) (.slice (some ⟨w.heap.size, 0, none⟩) 1 1) (w.alloc (.cells (bytesV [1]).toArray 5)) := ⟨_, _, rfl, row_cells (World.alloc_heap_new _ _) (by unfold maxLen; simp [genL])⟩
 have HB0 := Lh hb0
 have HR0 := Lh hr0
 obtain ⟨i0, hi, hz0, hz1, hz2⟩ := info_parts info_u8
 clear hb0 hr0
 go_enter Tryz.func126, Tryz.ntmps126
 go_wp2_with fail
 go_loopw [1, 2, 3] (fun v r i wr => GnAt w v r i wr) (fun _ _ i _ => 32 - (intOf i).toNat)
 case atStart => exact ⟨0, Nat.zero_le _, rfl, rfl, HR0.out, HB0.out⟩
 case round =>
  rename World => W1
  obtain ⟨k, hk, rfl, rfl, hr, hb⟩ := hrel
  by_cases hlt : k < 32
  ·have hd1 : decide ((k : Int) < 32) = true := by simpa using (by omega : (k : Int) < 32)
   have hgl := genL_length k
   have HG : Hid (genL (k + 1) = nx (genL k) (Gf.al k)) := Lh rfl
   have HA : Hid (∀ v : World, Calls Tryz.prog 127 #[.int .u8 ((Gf.al k).toNat : Int), .int .u8 2] v fun e w' => e = .returned (.int .u8 ((Gf.al (k + 1)).toNat : Int)) /\ w' = v) := Lh fun v => by
    have := rmul_u8 (Gf.al k) (Gf.al 1) v
    rw [Gf.gm_al] at this
    exact this
   obtain ⟨o, c, rfl, hr⟩ := hr
   have h3 := hr.le
   have h4 := hr.cap
   simp only [bytesV_length] at h3
   unfold maxLen at h4
   have HR := Lh hr
   have HB := Lh hb
   clear hr hb
   have hrl := UInt8.toNat_lt (Gf.al k)
   generalize Gf.al k = r at *
   have HGL := Lh hgl
   have hn : (genL k).length <= 33 := by omega
   clear hgl
   generalize genL k = G at *
   go_wp2_with (at_make; refine wpList_make_full _ rfl _ _ 22 rfl 0 5 i0 (.int .u8 0) 1 Tryz.underlying22 hi hz0 hz1 _ _ _ _ (G.length + 1) rfl rfl (by omega) (by omega) (by rw [hz2]; omega) (by unfold maxLen; omega) (Nat.zero_le _) ?_)
   intro w2 hown hgrow
   have hb2 : Below W1.heap.size W1 w2 := (Below.refl _ _).grown hgrow (Nat.le_refl _) (fun k h => by cases h)
   have hbuf : Buf w2 W1.heap.size (G.length + 1) (nxAt G r 0) := by rw [nxAt_zero]; exact buf_made hown
   have HB2 := Lh hb2
   have HBF := Lh hbuf
   have HR2 := Lh (HR.out.later hb2)
   have HAP := Lh (HR.out.apart (Nat.le_refl W1.heap.size))
   clear hown hgrow hb2 hbuf
   obtain ⟨g, hg⟩ : ∃ g, W1.heap.size = g := ⟨_, rfl⟩
   rw [hg] at HBF HAP ⊢
   have HGE := Lh hg
   clear hg
   go_wp2_with fail
   go_loopw [18] (fun i wr => GiAt G r w2 g i wr) (fun i _ => G.length - (intOf i).toNat)
   case atStart => exact ⟨0, Nat.zero_le _, rfl, HBF.out, Only.refl _ _⟩
   case round =>
    rename World => W3
    obtain ⟨j, hj, rfl, hbf, ho⟩ := hrel
    have HR3 := Lh (ho.row HR2.out HAP.out)
    have HO := Lh ho
    have HBJ := Lh hbf
    by_cases hjl : j < G.length
    ·obtain ⟨b1, off1, rfl, hb1, hcell⟩ := HR3.out.cells (by simp; omega)
     have hc1 : W3.cell? ⟨b1, off1 + j, none⟩ = some (.int .u8 ((co G j).toNat : Int)) := hcell j _ (bytesV_get G j hjl)
     have hc2 := hbf.cell j (by simp; omega)
     have hf2 := hbf.frozen j
     have hdr := hbf.later ((Below.refl W3.heap.size W3).drew)
     have hst := hdr.store j (co (nxAt G r j) j ^^^ Gf.gm (co G j) r)
     have hce := hst.1.cell (j + 1) (by simp; omega)
     rw [co_set, if_neg (by omega), nxAt_two _ _ _ hjl] at hce
     have hfe := hst.1.frozen (j + 1)
     have hst2 := hst.1.store (j + 1) (co G j)
     have hc3 := (Only.row hst.2 (HR3.out.later ((Below.refl W3.heap.size W3).drew)) HAP.out).cells
     rw [nxAt_step _ _ _ hjl _ rfl] at hst2
     have HS2 := Lh hst2
     have HS1 := Lh hst.2
     have hx := u8c (co (nxAt G r j) j) (Gf.gm (co G j) r)
     have MC : Hid (∀ v : World, Calls Tryz.prog 127 #[.int .u8 ((co G j).toNat : Int), .int .u8 (r.toNat : Int)] v fun e w' => e = .returned (.int .u8 ((Gf.gm (co G j) r).toNat : Int)) /\ w' = v) := Lh fun v => rmul_u8 _ _ v
     clear hcell hbf ho hst hst2 hdr hc3
     generalize Gf.gm (co G j) r = t at *
     generalize co (nxAt G r j) j = s at *
     generalize s ^^^ t = q at *
     generalize hy : co G j = y at *
     have hyl := UInt8.toNat_lt y
     have hsl := UInt8.toNat_lt s
     have htl := UInt8.toNat_lt t
     have HY := Lh hy
     have hx2 : bits .xor .u8 0 (y.toNat : Int) = (y.toNat : Int) := by
      have := u8c 0 y
      rw [UInt8.zero_xor] at this
      exact this
     clear hy
     obtain ⟨w5, hw5⟩ : ∃ w5, W3.drew.setCell ⟨g, j, none⟩ (.int .u8 (q.toNat : Int)) = w5 := ⟨_, rfl⟩
     rw [hw5] at hce hfe HS2 HS1
     have HW5 := Lh hw5
     clear hw5
     go_wp2_with fail
     go_region_with (go_at_call 127; refine (MC.out _).mono ?_; rintro e w' ⟨rfl, rfl⟩)
     all_goals
      rw [show (W3.setCell ⟨g, j, none⟩ (.int .u8 (q.toNat : Int))).drew = w5 from HW5.out]
      go_wp2
      go_roundw
      case rel => exact ⟨j + 1, by omega, by go_num, HS2.out.1, HO.out.trans ((Only.of_below (Below.refl W3.heap.size W3).drew).trans (HS1.out.trans HS2.out.2))⟩
      case measure => simp [intOf]; omega
    ·obtain rfl : j = G.length := by omega
     rw [nxAt_full] at hbf
     have hrow := hbf.row
     have hbw : Below w.heap.size w W3 := Ks HB.out ((HB2.out).trans (ho.below (by rw [HGE.out]; exact Nat.le_refl _) HB2.out.size))
     have HROW := Lh hrow
     have HBW := Lh hbw
     clear HBJ hbf ho hrow hbw
     go_wp2_with fail
     refine (HA.out _).mono ?_; rintro e w' ⟨rfl, rfl⟩
     go_wp2_with fail
     go_roundw
     case rel => exact ⟨k + 1, by omega, by go_num, rfl, ⟨some ⟨g, 0, none⟩, G.length + 1, by rw [HG.out]; simp [nx], by rw [HG.out]; exact HROW.out⟩, HBW.out⟩
     case measure => simp [intOf]; omega
  ·obtain rfl : k = 32 := by omega
   have HR := Lh hr
   have HB := Lh hb
   clear hr hb
   go_wp2_with fail
   go_ret
   exact ⟨_, rfl, HR.out, HB.out⟩
theorem mixr_zero (R G : List UInt8) (i : Nat) (y : UInt8) : mixr R G i y 0 = R := list_ext (by simp) fun m hm => by
 simp at hm
 rw [co_mixr _ _ _ _ _ _ hm, if_neg (by omega), UInt8.xor_zero]
theorem mixr_none (R G : List UInt8) (i k : Nat) : mixr R G i 0 (k + 1) = mixr R G i 0 k := list_ext (by simp) fun m hm => by
 simp at hm
 rw [co_mixr _ _ _ _ _ _ hm, co_mixr _ _ _ _ _ _ hm, Gf.zero_gm]
 simp
theorem mixr_step (R G : List UInt8) (i : Nat) (y : UInt8) (k : Nat) (h : i + k < R.length) : (mixr R G i y k).set (i + k) (co (mixr R G i y k) (i + k) ^^^ Gf.gm y (co G (32 - k))) = mixr R G i y (k + 1) := list_ext (by simp) fun m hm => by
 simp at hm
 rw [co_set, co_mixr R G i y (k + 1) m hm]
 by_cases e : i + k = m
 ·subst e
  have e1 : co (mixr R G i y k) (i + k) = co R (i + k) := by rw [co_mixr R G i y k _ hm, if_neg (by omega), UInt8.xor_zero]
  rw [if_pos ⟨rfl, by simpa using hm⟩, e1, if_pos (by omega), show i + k - i = k by omega]
 ·rw [if_neg (fun h => e h.1), co_mixr R G i y k m hm]
  by_cases e2 : i <= m /\ m < i + k
  ·rw [if_pos e2, if_pos (by omega)]
  ·rw [if_neg e2, if_neg (by omega)]
def PoAt (d : List UInt8) (g cap : Nat) (w : World) (iv : Value) (wr : World) : Prop :=
 ∃ (i : Nat) (R : List UInt8), i <= d.length /\ iv = .int .i64 i /\ PR d R i /\ Buf wr g cap R /\ Only g w wr
def PiAt (R : List UInt8) (i : Nat) (y : UInt8) (g cap : Nat) (w : World) (kv : Value) (wr : World) : Prop :=
 ∃ k : Nat, k <= 33 /\ kv = .int .i64 k /\ Buf wr g cap (mixr R (genL 32) i y k) /\ Only g w wr
def ParToK (d : List UInt8) (w : World) (e : Ending) (w' : World) : Prop :=
 ∃ r x, r.length = 32 /\ IsCode (d ++ r) /\ e = .returned (.tuple #[x, .int .i64 0]) /\ RowV r x w' /\ Below w.heap.size w w' /\ ∃ g off q cur, x = .slice (some ⟨g, off, none⟩) 32 q /\ w'.heap[g]? = some (.cells cur 5 (0, 0))
theorem rpar_kind (d : List UInt8) (o : Option Addr) (c : Nat) (w : World) (hP : RowIs w o (bytesV d) c) (hl1 : 1 <= d.length) (hl2 : d.length <= 223) :
    Calls Tryz.prog 82 #[.slice o d.length c] w (ParToK d w) := by
 have h1 := hP.le
 have h2 := hP.cap
 simp only [bytesV_length] at h1
 unfold maxLen at h2
 have HP := Lh hP
 clear hP
 have hd1 : decide ((d.length : Int) < 1) = false := decide_eq_false (by omega)
 have hd2 : decide ((223 : Int) < (d.length : Int)) = false := decide_eq_false (by omega)
 go_enter Tryz.func82, Tryz.ntmps82
 go_wp2_with fail
 refine (rgen_any w).mono ?_; rintro e w1 ⟨gv, rfl, hg, hb⟩
 have HG1 := Lh hg
 have HB1 := Lh hb
 have HPE : Hid (RowIs (w1.alloc (.cells #[] 5)) o (bytesV d) c) := Lh ((HP.out.later hb).later ((Below.refl _ _).alloc (Nat.le_refl _) _))
 have HOWN : Hid ((w1.alloc (.cells #[] 5)).ownsRow w1.heap.size 5 1 (.slice (some ⟨w1.heap.size, 0, none⟩) 0 0) 0 (bytesV [])) := Lh (World.ownsRow_lit w1 #[] 0 (Nat.le_refl _) (Nat.zero_le _) rfl)
 have HBE : Hid (Below w1.heap.size w1 (w1.alloc (.cells #[] 5))) := Lh ((Below.refl _ _).alloc (Nat.le_refl _) _)
 clear hg hb
 go_wp2_with (at_builtin; refine append_row rfl (.tmp 18) (.tmp 19) rfl w1.heap.size _ 0 [] rfl HOWN.out o d.length c d rfl rfl HPE.out (by omega) HBE.out.size ?_)
 intro v2 w2 hv hgr
 have hb2 := own_below (n := 0) HBE.out HOWN.out hgr
 have HV2 : Hid (w2.ownsRow w1.heap.size 5 1 v2 d.length (bytesV d)) := Lh (by simpa using hv)
 have HB2 := Lh hb2
 clear hv hgr hb2 HOWN HBE HPE
 refine append_zeros rfl (.tmp 20) (.const (.int .i64 32)) rfl w1.heap.size _ d.length d rfl HV2.out 32 (by omega) rfl (by omega) (by omega) HB2.out.size ?_
 intro v3 w3 hv hgr
 have hb3 := own_below (n := 0) HB2.out HV2.out hgr
 have hw3 : Below w.heap.size w w3 := Ks HB1.out hb3
 have eln : d.length + 32 = (d ++ List.replicate 32 0).length := by simp
 obtain ⟨g, cap, rfl, hgw, hbuf⟩ : ∃ g cap, v3 = .slice (some ⟨g, 0, none⟩) (d.length + 32) cap /\ w1.heap.size <= g /\ Buf w3 g cap (d ++ List.replicate 32 0) := by
  have h0 := hv.2
  rcases h0 with ⟨_, h0⟩ | ⟨g, cap, cur, rfl, hg, _⟩
  ·omega
  ·refine ⟨g, cap, rfl, hg, ?_⟩
   unfold Buf
   rw [<- eln]
   exact World.ownsRow.mono hv (Nat.zero_le _)
 obtain ⟨og, cg, rfl, hG⟩ := HG1.out
 rw [genL_length]
 have hGl : (genL 32).length = 33 := genL_length 32
 have hGl2 : Hid ((genL 32).length = 33) := Lh hGl
 obtain ⟨bg, fg, rfl, hbg, _⟩ := hG.cells (by simp [hGl])
 obtain ⟨bd, fd, rfl, hbd, _⟩ := HP.out.cells (by simp; omega)
 have HG3 := Lh (hG.later hb3)
 have HP3 := Lh (HP.out.later hw3)
 have HGN : Hid (bg ≠ g) := Lh (by omega)
 have HDN : Hid (bd ≠ g) := Lh (by have := HB1.out.size; omega)
 have HGE : Hid (w.heap.size <= g) := Lh (Nat.le_trans HB1.out.size hgw)
 have HB3 := Lh hw3
 have HBF := Lh hbuf
 have hcap := hbuf.le
 rw [<- eln] at hcap
 unfold maxLen at hcap
 clear hv hgr hb3 hw3 eln hgw hbuf hG hGl hbg hbd HB2 HV2 HG1
 go_wp2_with fail
 go_loopw [24] (fun iv wr => PoAt d g cap w3 iv wr) (fun iv _ => d.length - (intOf iv).toNat)
 case atStart => exact ⟨0, _, Nat.zero_le _, rfl, PR.start d, HBF.out, Only.refl _ _⟩
 case round =>
  rename World => W1
  obtain ⟨i, R, hi, rfl, hR, hbf, ho⟩ := hrel
  have hRl := hR.len
  by_cases hlt : i < d.length
  ·have hc0 := hbf.cell i (by omega)
   have HR := Lh hR
   have HRL := Lh hRl
   have HBI := Lh hbf
   have HO := Lh ho
   clear hR hbf ho
   obtain ⟨y, hy⟩ : ∃ y, co R i = y := ⟨_, rfl⟩
   rw [hy] at hc0
   have HY := Lh hy
   have hyl := UInt8.toNat_lt y
   clear hy
   have hi1 : (i : Int) < (d.length : Int) + 32 := by omega
   go_wp2_with fail
   go_loopw [8] (fun kv wr => PiAt R i y g cap W1 kv wr) (fun kv _ => 33 - (intOf kv).toNat)
   case atStart => exact ⟨0, by omega, rfl, by rw [mixr_zero]; exact HBI.out, Only.refl _ _⟩
   case round =>
    obtain ⟨k, hk, rfl, hbk, hok⟩ := hrel
    by_cases hkl : k <= 32
    ·by_cases h0 : y = 0
     ·subst h0
      have HBK := Lh hbk
      have HOK := Lh hok
      clear hbk hok
      have hd3 : decide ((k : Int) <= 32) = true := decide_eq_true (by omega)
      go_wp2_with fail
      go_roundw
      case rel => exact ⟨k + 1, by omega, by go_num, by rw [mixr_none]; exact HBK.out, HOK.out⟩
      case measure => simp [intOf]; omega
     ·have h00 : ¬ y.toNat = 0 := fun e => h0 (Gf.u8_ext e)
      have hx1 : ((y.toNat : Int) == 0) = false := by simpa using h00
      have hx2 : ((y.toNat : Int) != 0) = true := by simp [bne, hx1]
      have hd3 : decide ((k : Int) <= 32) = true := decide_eq_true (by omega)
      have hgw : RowIs wr (some ⟨bg, fg, none⟩) (bytesV (genL 32)) cg := (HO.out.trans hok).row HG3.out (fun _ p e => by cases e; exact HGN.out)
      obtain ⟨bg', fg', e, _, hcell⟩ := hgw.cells (by simp [hGl2.out])
      cases e
      have hml : i + k < R.length := by omega
      have hc1 := hbk.cell (i + k) (by simpa using hml)
      have hf1 := hbk.frozen (i + k)
      have hcg : wr.cell? ⟨bg, fg + (32 - k), none⟩ = some (.int .u8 ((co (genL 32) (32 - k)).toNat : Int)) := hcell (32 - k) _ (bytesV_get (genL 32) (32 - k) (by have := hGl2.out; omega))
      have hst := ((hbk.later ((Below.refl wr.heap.size wr).drew)).store (i + k) (co (mixr R (genL 32) i y k) (i + k) ^^^ Gf.gm y (co (genL 32) (32 - k))))
      rw [mixr_step _ _ _ _ _ hml] at hst
      have hx := u8c (co (mixr R (genL 32) i y k) (i + k)) (Gf.gm y (co (genL 32) (32 - k)))
      have MC : Hid (∀ v : World, Calls Tryz.prog 127 #[.int .u8 (y.toNat : Int), .int .u8 ((co (genL 32) (32 - k)).toNat : Int)] v fun e w' => e = .returned (.int .u8 ((Gf.gm y (co (genL 32) (32 - k))).toNat : Int)) /\ w' = v) := Lh fun v => rmul_u8 _ _ v
      have HOK := Lh hok
      clear hcell hok hgw hbk
      generalize Gf.gm y (co (genL 32) (32 - k)) = t at *
      generalize co (mixr R (genL 32) i y k) (i + k) = s at *
      generalize co (genL 32) (32 - k) = u at *
      generalize s ^^^ t = q at *
      have hsl := UInt8.toNat_lt s
      have hul := UInt8.toNat_lt u
      obtain ⟨m, hm⟩ : ∃ m, i + k = m := ⟨_, rfl⟩
      obtain ⟨r, hr⟩ : ∃ r, 32 - k = r := ⟨_, rfl⟩
      rw [hm] at hc1 hf1 hst hml
      rw [hr] at hcg
      have hw1 : IntKind.i64.wrap ((i : Int) + (k : Int)) = (m : Int) := by rw [IntKind.wrap_i64]; omega
      have hw2 : IntKind.i64.wrap (32 - (k : Int)) = (r : Int) := by rw [IntKind.wrap_i64]; omega
      have hm2 : (m : Int) < (d.length : Int) + 32 := by omega
      have hr2 : (r : Int) < 33 := by omega
      have hm0 : (0 : Int) <= (m : Int) := by omega
      have hr0 : (0 : Int) <= (r : Int) := by omega
      have HST := Lh hst
      clear hst hm hr
      go_wp2_with fail
      go_region_with (go_at_call 127; refine (MC.out _).mono ?_; rintro e w' ⟨rfl, rfl⟩)
      all_goals
       rw [show (wr.setCell ⟨g, m, none⟩ (.int .u8 (q.toNat : Int))).drew = wr.drew.setCell ⟨g, m, none⟩ (.int .u8 (q.toNat : Int)) from rfl]
       go_wp2
       go_roundw
       case rel => exact ⟨k + 1, by omega, by go_num, HST.out.1, HOK.out.trans ((Only.of_below (Below.refl wr.heap.size wr).drew).trans HST.out.2)⟩
       case measure => simp [intOf]; omega
    ·obtain rfl : k = 33 := by omega
     have HBK := Lh hbk
     have HOK := Lh hok
     clear hbk hok
     go_wp2_with fail
     go_roundw
     case rel => exact ⟨i + 1, mixr R (genL 32) i y 33, by omega, by go_num, by rw [<- HY.out]; exact HR.out.step hlt, HBK.out, HO.out.trans HOK.out⟩
     case measure => simp [intOf]; omega
  ·obtain rfl : i = d.length := by omega
   have hdn := hR.done
   have hdr := hbf.drop d.length (by omega)
   have hbw : Below w.heap.size w W1 := HB3.out.trans (ho.below HGE.out HB3.out.size)
   have HDN := Lh hdn
   have HDR := Lh hdr
   have HBW := Lh hbw
   have hcn : ¬ cap = d.length := by omega
   have HCU := Lh hbf.cells
   clear hdn hdr hbw hbf ho hR
   go_wp2_with fail
   refine bodyPost_ret (results_tmp2 rfl _ _ _) rfl ?_
   exact ⟨_, _, HDN.out.1, HDN.out.2, rfl, ⟨some ⟨g, d.length, none⟩, cap - d.length, by rw [HDN.out.1]; rfl, HDR.out⟩, HBW.out, g, d.length, cap - d.length, HCU.out.choose, by simp, HCU.out.choose_spec⟩
end Go.Proofs.YtffheegeaghfjaaGreatDoor

namespace Go.Proofs.YtffheegeaghfjaaGreatDoor
open Go.RowKit
theorem build_syn {P : Program} {ops : Array Oper} {rest : List Oper} {o : Oper} {a : Act} {w : World} {Q : Exit -> Act -> World -> Prop} (hg : o.guard = none) (T : TypeId) (ho : o.op = .build T #[]) (Z : Array Value) (hb : P.built T [] = some Z)
    (h : wpList P ops Q rest (a.put o.dst (.agg Z)) w) : wpList P ops Q (o :: rest) a w := by
 have e : (((#[] : Array (Nat × Operand)).map fun (i, x) => (i, a.eval x)).toList) = [] := by simp
 refine wpList_build hg T #[] ho ?_ ?_
 ·rw [e, hb]; rfl
 ·rw [e, hb]; exact h
attribute [local go_sem] Oper.semAt_some
end Go.Proofs.YtffheegeaghfjaaGreatDoor

namespace Go.Proofs.YtffheegeaghfjaaGreatDoor
open Go.RowKit
theorem d32_eql (xs ys : List UInt8) (hx : xs.length = 32) (hy : ys.length = 32) (w : World) : (binOp .eql 31 (.agg (bytesV xs).toArray) (.agg (bytesV ys).toArray)).run Tryz.prog w = .ok (.bool (xs == ys)) w :=
 run_eql_bytes w 31 5 32 d32_under Tryz.underlying5 (fun w => by
  obtain ⟨i0, hi, _, hz1, _⟩ := info_parts info_u8
  simp [sizeOf, typeInfo, hi, hz1]) xs ys hx hy
theorem d32_guard : Tryz.prog.eqGuardType Tryz.prog.depth 31 = false := by kernel_rfl
def Rsp (n : Nat) (w : World) (k : Value) (wr : World) : Prop := ∃ j : Nat, k = .int .i64 ((2 ^ j : Nat) : Int) /\ 2 ^ j < n /\ wr = w
theorem rsplit_any (n : Nat) (h2 : 2 <= n) (h : n <= 2199023255552) (w : World) :
    Calls Tryz.prog 88 #[.int .i64 (n : Int)] w fun e w' => e = .returned (.int .i64 (Da.spl n : Nat)) /\ w' = w := by
 go_enter Tryz.func88, Tryz.ntmps88
 go_wp2_with fail
 go_loopw [3] (fun k wr => Rsp n w k wr) (fun k _ => n - (intOf k).toNat)
 case atStart => exact ⟨0, rfl, by omega, rfl⟩
 case round =>
  obtain ⟨j, rfl, hlt, rfl⟩ := hrel
  have HN : Hid (∀ m, 2 ^ j = m -> n <= 2 * m -> Da.spl n = m) := Lh (fun m e h => by rw [<- e]; exact Da.spl_only hlt (by omega))
  have HP : Hid (2 ^ (j + 1) = 2 * 2 ^ j) := Lh (by rw [Nat.pow_succ]; omega)
  have h1 : 0 < 2 ^ j := Nat.two_pow_pos _
  obtain ⟨m, hm⟩ : ∃ m, 2 ^ j = m := ⟨_, rfl⟩
  rw [hm] at HP hlt h1 ⊢
  have HM := Lh hm
  clear hm
  by_cases hc : m < n - m
  ·have hd : decide ((m : Int) < (n : Int) - (m : Int)) = true := by simp; omega
   go_wp2_with fail
   go_roundw
   case rel => exact ⟨j + 1, by rw [HP.out]; go_num, by rw [HP.out]; omega, rfl⟩
   case measure => simp [intOf]; omega
  ·have hd : decide ((m : Int) < (n : Int) - (m : Int)) = false := by simp; omega
   have e := HN.out m HM.out (by omega)
   have HE := Lh e
   clear e
   go_wp2_with fail
   go_ret
   exact ⟨by rw [HE.out]; rfl, rfl⟩
end Go.Proofs.YtffheegeaghfjaaGreatDoor

namespace Go.Proofs.YtffheegeaghfjaaGreatDoor
open Go.RowKit
theorem rnode_of (Z : Array Value) (hZ : Z = (bytesV (List.replicate 32 0)).toArray) (hzs : ∀ w, Sem.run Tryz.prog (zeroValue 31) w = .ok (.agg Z) w)
    (l r : List UInt8) (hl : l.length = 32) (hr : r.length = 32) (w : World) (hV : Rds w) :
    Calls Tryz.prog 89 #[.agg (bytesV l).toArray, .agg (bytesV r).toArray] w fun e w' => e = .returned (.agg (bytesV (Da.nd l r)).toArray) /\ Below w.heap.size w w' := by
 obtain ⟨W1, hW1⟩ : ∃ W1, w.alloc (.cells (bytesV l).toArray 31) = W1 := ⟨_, rfl⟩
 obtain ⟨W2, hW2⟩ : ∃ W2, W1.alloc (.cells (bytesV r).toArray 31) = W2 := ⟨_, rfl⟩
 obtain ⟨W3, hW3⟩ : ∃ W3, W2.alloc (.cells Z 31) = W3 := ⟨_, rfl⟩
 have hb1 : Below w.heap.size w W1 := by rw [<- hW1]; exact new12 _ _
 have hb2 : Below W1.heap.size W1 W2 := by rw [<- hW2]; exact new12 _ _
 have hb3 : Below W2.heap.size W2 W3 := by rw [<- hW3]; exact new12 _ _
 have hs1 : W1.heap.size = w.heap.size + 1 := by rw [<- hW1, World.size_alloc]
 have hs2 : W2.heap.size = w.heap.size + 1 + 1 := by rw [<- hW2, World.size_alloc, hs1]
 have hA1 : Arr W1 w.heap.size 31 (bytesV l) := by rw [<- hW1]; exact Arr.made _ _ _
 have hA2 : Arr W2 W1.heap.size 31 (bytesV r) := by rw [<- hW2]; exact Arr.made _ _ _
 have hA3 : Arr W3 W2.heap.size 31 Z.toList := by rw [<- hW3]; exact Arr.made _ _ _
 have hA13 : Arr W3 w.heap.size 31 (bytesV l) := hA1.later (Ks hb2 hb3) hA1.lt
 have hA23 : Arr W3 W1.heap.size 31 (bytesV r) := hA2.later hb3 hA2.lt
 have hB3 := Ks (Ks hb1 hb2) hb3
 have HV := Lh (hV.later hB3)
 obtain ⟨F, hF⟩ : ∃ F, (bytesV (Da.nd l r)).toArray = F := ⟨_, rfl⟩
 have hFl := Da.nd_length l r
 have HFS : Hid ((Tryz.prog.info? 31).map (·.size) = some F.size) := Lh (by rw [d32_info, <- hF]; simp [hFl])
 have HFO : Hid (F.all (·.oneCell') = true) := Lh (by rw [<- hF]; exact all_oneCell_toArray (bytesV_one _))
 have HFZ : Hid (Z.size = F.size) := Lh (by rw [hZ, <- hF]; simp [hFl])
 obtain ⟨LA, hLA⟩ : ∃ LA, (bytesV l).toArray = LA := ⟨_, rfl⟩
 obtain ⟨RA, hRA⟩ : ∃ RA, (bytesV r).toArray = RA := ⟨_, rfl⟩
 have HL1 : Hid (W3.heap[w.heap.size]? = some (.cells LA 31 (0, 0))) := Lh (by rw [<- hLA]; exact hA13)
 have HL2 : Hid (W3.heap[W1.heap.size]? = some (.cells RA 31 (0, 0))) := Lh (by rw [<- hRA]; exact hA23)
 have HLS : Hid ((Tryz.prog.info? 31).map (·.size) = some LA.size) := Lh (by rw [d32_info, <- hLA]; simp [hl])
 have HRS : Hid ((Tryz.prog.info? 31).map (·.size) = some RA.size) := Lh (by rw [d32_info, <- hRA]; simp [hr])
 have HA3 := Lh hA3
 have HA13 := Lh hA13
 have HA23 := Lh hA23
 have HB3 := Lh hB3
 rw [hs1, hs2] at *
 have HW1 := Lh hW1
 have HW2 := Lh hW2
 have HW3 := Lh hW3
 have HFF := Lh hF
 have HLA := Lh hLA
 have HRA := Lh hRA
 have HLL := Lh hl
 have HRL := Lh hr
 rw [hLA] at HW1 ⊢
 rw [hRA] at HW2 ⊢
 rw [hF]
 clear hb1 hb2 hb3 hB3 hs1 hs2 hW1 hW2 hW3 hLA hRA hF hA1 hA2 hA3 hA13 hA23 hFl hZ hl hr hV
 obtain ⟨W4, hW4⟩ : ∃ W4, (W3.alloc (.cells #[.int .u8 1] 5)).drew = W4 := ⟨_, rfl⟩
 have hs3 : W3.heap.size = w.heap.size + 1 + 1 + 1 := by rw [<- HW3.out, World.size_alloc, <- HW2.out, World.size_alloc, <- HW1.out, World.size_alloc]
 have hb4 : Below W3.heap.size W3 W4 := by rw [<- hW4]; exact Kit.dn (new12 W3 _) 1
 have HO4 : Hid (W4.ownsRow W3.heap.size 5 1 (.slice (some ⟨W3.heap.size, 0, none⟩) 1 1) 1 (bytesV [1])) := Lh (by rw [<- hW4]; exact World.ownsRow_lit W3 #[.int .u8 1] 1 (Nat.le_refl _) (by unfold maxLen; decide) rfl)
 have hl1 := (HA13.out.later hb4 HA13.out.lt).row (by rw [HLL.out]; unfold maxLen; decide)
 have hr1 := (HA23.out.later hb4 HA23.out.lt).row (by rw [HRL.out]; unfold maxLen; decide)
 rw [HLL.out] at hl1
 rw [HRL.out] at hr1
 have HLR := Lh hl1
 have HRR := Lh hr1
 have HB4 := Lh hb4
 have HW4 := Lh hW4
 clear hl1 hr1 hb4 hW4 hs3
 go_enter Tryz.func89, Tryz.ntmps89
 go_upto_region 1 with fail
 rw [HW1.out, HW2.out, HW3.out]
 refine wp_region_any (by kernel_rfl) ?_
 change wpAny _ _ _ _ _ _ _ (World.drew _)
 refine wpAny_take (i := 1) (v := ?va1) rfl (by kernel_rfl) (by kernel_rfl) (by kernel_rfl) (fun _ _ _ h => h) (Or.inl ⟨by rfl, ?ha1⟩) ?ra1
 case ha1 => (intro w; (go_simp <;> with_reducible rfl))
 refine wpAny_take (i := 3) (v := ?va2) rfl (by kernel_rfl) (by kernel_rfl) (by kernel_rfl) (fun _ _ _ h => h) (Or.inl ⟨by rfl, ?ha2⟩) ?ra2
 case ha2 => (intro w; (go_simp <;> with_reducible rfl))
 refine wpAny_ready (rs := [0]) (by kernel_rfl) (by simp) ?_
 refine AllReady.cons rfl (fun K hK => ?_) AllReady.nil
 go_simp
 rw [HW4.out]
 refine hK _ _ ?_
 clear hK K
 refine wpAny_ready (rs := [2]) (by kernel_rfl) (by simp) ?_
 refine AllReady.cons rfl (fun K hK => ?_) AllReady.nil
 rw [if_pos (by rfl)]
 refine wp_append_row (.tmp 5) (.tmp 6) rfl W3.heap.size _ 1 [1] rfl HO4.out (some ⟨w.heap.size, 0, none⟩) 32 32 l rfl HLL.out.symm HLR.out (by omega) HB4.out.size fun v5 W5 hv5 hg5 => hK _ _ ?_
 clear hK K
 have hb5 := own_below (n := 0) HB4.out HO4.out hg5
 have HO5 := Lh hv5
 have HB5 := Lh hb5
 have hr5 := (HA23.out.later hb5 HA23.out.lt).row (by rw [HRL.out]; unfold maxLen; decide)
 rw [HRL.out] at hr5
 have HR5 := Lh hr5
 clear hv5 hg5 hb5 hr5 HO4 HLR HRR
 refine wpAny_ready (rs := [4]) (by kernel_rfl) (by simp) ?_
 refine AllReady.cons rfl (fun K hK => ?_) AllReady.nil
 rw [if_pos (by rfl)]
 refine wp_append_row (.tmp 7) (.tmp 8) rfl W3.heap.size _ (1 + 32) ([1] ++ l) rfl HO5.out (some ⟨w.heap.size + 1, 0, none⟩) 32 32 r rfl HRL.out.symm HR5.out (by omega) HB5.out.size fun v6 W6 hv6 hg6 => hK _ _ ?_
 clear hK K
 have hb6 := own_below (n := 0) HB5.out HO5.out hg6
 obtain ⟨o6, c6, rfl, hr6⟩ := owns_is hv6 (by simp [HLL.out, HRL.out])
 have RO := rof_any (1 :: (l ++ r)) o6 c6 W6 (by simpa using hr6) (HV.out.later hb6) (by simp [HLL.out, HRL.out])
 have hln : (1 :: (l ++ r) : List UInt8).length = 1 + 32 + 32 := by simp [HLL.out, HRL.out]
 rw [hln, show Da.sha (1 :: (l ++ r)) = Da.nd l r from rfl, HFF.out] at RO
 have HRO := Lh RO
 have HA6 := Lh (HA3.out.later hb6 HA3.out.lt)
 have HB6 := Lh (Ks HB3.out hb6)
 clear RO hln hr6 hv6 hg6 hb6 HO5 HB5 HR5
 refine wpAny_ready (rs := [5]) (by kernel_rfl) (by simp) ?_
 refine AllReady.cons rfl (fun K hK => ?_) AllReady.nil
 go_simp
 refine HRO.out.mono ?_
 rintro e W7 ⟨rfl, hb7⟩
 refine hK _ _ ?_
 clear hK K HRO
 have hA7 := HA6.out.later hb7 HA6.out.lt
 have HA7 : Hid (W7.heap[w.heap.size + 1 + 1]? = some (.cells Z 31 (0, 0))) := Lh hA7
 have HGW : Hid ((W7.setRow (w.heap.size + 1 + 1) F).heap[w.heap.size + 1 + 1]? = some (.cells F 31 (0, 0))) := Lh (setRow_heap _ _ _ _ _ _ hA7)
 have HBW : Hid (Below w.heap.size w (W7.setRow (w.heap.size + 1 + 1) F)) := Lh ((Ks HB6.out hb7).trans (below_row (by omega)))
 clear hA7 hb7
 refine wpAny_ready (rs := [6]) (by kernel_rfl) (by simp) ?_
 refine AllReady.cons rfl (fun K hK => ?_) AllReady.nil
 rw [if_pos (by rfl)]
 refine wp_store_row 31 (.tmp 4) (.tmp 10) rfl (w.heap.size + 1 + 1) F rfl rfl 31 Z HA7.out HFS.out HFZ.out HFO.out (hK _ _ ?_)
 clear hK K
 refine wpAny_done (by kernel_rfl) ?_ _
 go_wp2_with fail
 refine bodyPost_ret (results_cell_row rfl _ _ (w.heap.size + 1 + 1) 31 F (0, 0) _ rfl HGW.out d32_under rfl HFS.out) rfl ?_
 exact ⟨rfl, HBW.out⟩
theorem rnode_any (l r : List UInt8) (hl : l.length = 32) (hr : r.length = 32) (w : World) (hV : Rds w) :
    Calls Tryz.prog 89 #[.agg (bytesV l).toArray, .agg (bytesV r).toArray] w fun e w' => e = .returned (.agg (bytesV (Da.nd l r)).toArray) /\ Below w.heap.size w w' := rnode_of _ rfl d32_zero l r hl hr w hV
theorem rleaf_of (Z : Array Value) (hZ : Z = (bytesV (List.replicate 32 0)).toArray) (hzs : ∀ w, Sem.run Tryz.prog (zeroValue 31) w = .ok (.agg Z) w)
    (b : List UInt8) (o : Option Addr) (c : Nat) (w : World) (hR : RowIs w o (bytesV b) c) (hV : Rds w) (hl : b.length <= 90000) :
    Calls Tryz.prog 90 #[.slice o b.length c] w fun e w' => e = .returned (.agg (bytesV (Da.lf b)).toArray) /\ Below w.heap.size w w' := by
 obtain ⟨g, hg⟩ : ∃ g, w.heap.size = g := ⟨_, rfl⟩
 obtain ⟨W1, hW1⟩ : ∃ W1, w.alloc (Obj.cells Z 31) = W1 := ⟨_, rfl⟩
 have hb1 : Below w.heap.size w W1 := by rw [<- hW1]; exact new12 _ _
 have hA1 : Arr W1 g 31 Z.toList := by rw [<- hW1, <- hg]; exact Arr.made _ _ _
 obtain ⟨W2, hW2⟩ : ∃ W2, W1.alloc (.cells #[.int .u8 0] 5) = W2 := ⟨_, rfl⟩
 have hb2 : Below W1.heap.size W1 W2 := by rw [<- hW2]; exact new12 _ _
 have HO2 : Hid (W2.ownsRow W1.heap.size 5 1 (.slice (some ⟨W1.heap.size, 0, none⟩) 1 1) 1 (bytesV [0])) := Lh (by rw [<- hW2]; exact World.ownsRow_lit W1 #[.int .u8 0] 1 (Nat.le_refl _) (by unfold maxLen; decide) rfl)
 have HR2 := Lh (hR.later (Ks hb1 hb2))
 have HV1 := Lh (hV.later hb1)
 obtain ⟨F, hF⟩ : ∃ F, (bytesV (Da.lf b)).toArray = F := ⟨_, rfl⟩
 have hFl := Da.lf_length b
 have HFS : Hid ((Tryz.prog.info? 31).map (·.size) = some F.size) := Lh (by rw [d32_info, <- hF]; simp [hFl])
 have HFO : Hid (F.all (·.oneCell') = true) := Lh (by rw [<- hF]; exact all_oneCell_toArray (bytesV_one _))
 have HFZ : Hid (Z.size = F.size) := Lh (by rw [hZ, <- hF]; simp [hFl])
 have HA1 := Lh hA1
 have HB1 := Lh hb1
 have HB2 := Lh hb2
 have HW1 := Lh hW1
 have HW2 := Lh hW2
 have HG := Lh hg
 have HFF := Lh hF
 obtain ⟨L, hL⟩ : ∃ L, b.length = L := ⟨_, rfl⟩
 have HL := Lh hL
 rw [hL] at hl ⊢
 rw [hF]
 clear hb1 hb2 hW1 hW2 hR hL hF hV hA1 hFl hZ hg
 go_enter Tryz.func90, Tryz.ntmps90
 go_upto_region 1 with fail
 rw [HW1.out, HG.out]
 apply wp_region_lit
 (refine wpList_plain rfl (fun K hK => ?_); go_simp; refine hK _ _ ?_; clear hK K)
 rw [HW2.out]
 (refine wpList_plain rfl (fun K hK => ?_); go_simp; refine hK _ _ ?_; clear hK K)
 refine append_row rfl (.tmp 3) (.tmp 4) rfl W1.heap.size _ 1 [0] rfl HO2.out o L c b rfl HL.out.symm HR2.out (by omega) HB2.out.size ?_
 intro v3 W3 hv3 hg3
 have hb3 := own_below (n := 0) HB2.out HO2.out hg3
 obtain ⟨o3, c3, rfl, hr3⟩ := owns_is hv3 (by simp [HL.out]; omega)
 have RO := rof_any (0 :: b) o3 c3 W3 (by simpa using hr3) (HV1.out.later hb3) (by simp [HL.out]; omega)
 have hln : (0 :: b : List UInt8).length = 1 + L := by simp [HL.out]; omega
 rw [hln, show Da.sha (0 :: b) = Da.lf b from rfl, HFF.out] at RO
 have HRO := Lh RO
 have HA3 := Lh (HA1.out.later hb3 HA1.out.lt)
 have HB3 := Lh (Ks HB1.out hb3)
 clear RO hln hr3 hv3 hg3 hb3 HO2 HB2 HR2
 (refine wpList_plain rfl (fun K hK => ?_); go_simp)
 refine HRO.out.mono ?_
 rintro e W4 ⟨rfl, hb4⟩
 refine hK _ _ ?_
 clear hK K HRO
 have hA4 := HA3.out.later hb4 HA3.out.lt
 have HA4 : Hid (W4.heap[g]? = some (.cells Z 31 (0, 0))) := Lh hA4
 have HGW : Hid ((W4.setRow g F).heap[g]? = some (.cells F 31 (0, 0))) := Lh (setRow_heap _ _ _ _ _ _ hA4)
 have HBW : Hid (Below w.heap.size w (W4.setRow g F)) := Lh ((Ks HB3.out hb4).trans (below_row (Nat.le_of_eq HG.out)))
 clear hA4 hb4
 refine wpList_store_row rfl 31 (.tmp 2) (.tmp 6) rfl g F rfl rfl 31 Z HA4.out HFS.out HFZ.out HFO.out ?_
 go_wp2_with fail
 refine bodyPost_ret (results_cell_row rfl _ _ g 31 F (0, 0) _ rfl HGW.out d32_under rfl HFS.out) rfl ?_
 exact ⟨rfl, HBW.out⟩
theorem rleaf_any (b : List UInt8) (o : Option Addr) (c : Nat) (w : World) (hR : RowIs w o (bytesV b) c) (hV : Rds w) (hl : b.length <= 90000) :
    Calls Tryz.prog 90 #[.slice o b.length c] w fun e w' => e = .returned (.agg (bytesV (Da.lf b)).toArray) /\ Below w.heap.size w w' := rleaf_of _ rfl d32_zero b o c w hR hV hl
theorem dgI_doc : dgI 31 := by unfold dgI; kernel_rfl
theorem dg_load_run {T : TypeId} (hu : Tryz.prog.underlying T = some (.array 32 5)) (hT : dgI T) {W : World} {b off : Nat} {d : List UInt8} (hd : d.length = 32) (h : W.rangeAt b off (bytesV d)) :
    (Instr.loadAt T (.pointer (some ⟨b, off, none⟩))).run Tryz.prog W = .ok (.agg (bytesV d).toArray) W := by
 obtain ⟨i, hi, hz, hs, hb⟩ := dgI_parts hT
 exact run_loadAt_mid (P := Tryz.prog) W b off T (bytesV d) _ h hu rfl (by rw [hi]; simp [hs, hd])
attribute [local go_sem] Oper.semAt_some
end Go.Proofs.YtffheegeaghfjaaGreatDoor
namespace Go.Proofs.YtffheegeaghfjaaGreatDoor
open Go.RowKit
attribute [local go_sem] Oper.semAt_some
end Go.Proofs.YtffheegeaghfjaaGreatDoor
namespace Go.Proofs.YtffheegeaghfjaaGreatDoor
open Go.RowKit
attribute [local go_sem] Oper.semAt_some
end Go.Proofs.YtffheegeaghfjaaGreatDoor
namespace Go.Proofs.YtffheegeaghfjaaGreatDoor
open Go.RowKit
attribute [local go_sem] Oper.semAt_some
def RlI (bs : List (List UInt8)) (w : World) (v i : Value) (wr : World) : Prop :=
 ∃ (k : Nat) (o : Option Addr) (c : Nat), k <= bs.length /\ i = .int .i64 (k : Int) /\ v = .slice o k c /\ wr.ownsRow w.heap.size 31 32 v k (bytesV ((bs.map Da.lf).take k).flatten) /\ Below w.heap.size w wr
theorem rleaves_any (bs : List (List UInt8)) (o : Option Addr) (n c : Nat) (hn : bs.length = n) (w : World) (hR : RbIs w o bs c) (hV : Rds w) (hl : n <= 100000) (hll : ∀ i, i < bs.length -> (bi bs i).length <= 90000) :
    Calls Tryz.prog 46 #[.slice o n c] w fun e w' => ∃ o' c', e = .returned (.slice o' n c') /\ DgIs w' o' (bs.map Da.lf) c' /\ Below w.heap.size w w' := by
 have HR := Lh hR
 have HV := Lh hV
 have HN := Lh hn
 have HLL := Lh hll
 have hcl := hR.le.1
 have hca := hR.le.2
 rw [hn] at hcl
 unfold maxLen at hca
 obtain ⟨W1, hW1⟩ : ∃ W1, w.alloc (.cells #[] 31) = W1 := ⟨_, rfl⟩
 have hb1 : Below w.heap.size w W1 := by rw [<- hW1]; exact new12 _ _
 have HO1 : Hid (W1.ownsRow w.heap.size 31 32 (.slice (some ⟨w.heap.size, 0, none⟩) 0 0) 0 (bytesV ((bs.map Da.lf).take 0).flatten)) := Lh (by rw [<- hW1]; exact World.ownsRow_lit w #[] 0 (Nat.le_refl _) (Nat.zero_le _) rfl)
 have HB1 := Lh hb1
 have HW1 := Lh hW1
 clear hR hV hn hll hb1 hW1
 go_enter Tryz.func46, Tryz.ntmps46
 go_wp2_with (first | rw [HW1.out] | fail)
 go_loopw [3, 5, 9] (fun v _ i wr => RlI bs w v i wr) (fun _ _ i _ => n - (intOf i).toNat)
 case atStart => exact ⟨0, _, _, Nat.zero_le _, rfl, rfl, HO1.out, HB1.out⟩
 case round =>
  rename World => X
  obtain ⟨k, o5, c5, hk, rfl, rfl, hv, hb⟩ := hrel
  rw [HN.out] at hk
  by_cases hlt : k < n
  ·have hkb : k < bs.length := by rw [HN.out]; exact hlt
   obtain ⟨b, off, p, q, rfl, _, hc, hr⟩ := (HR.out.later hb).cell k hkb
   have LE := rleaf_any (bi bs k) p q X hr (HV.out.later hb) (HLL.out k hkb)
   have hel := Da.lf_length (bi bs k)
   have hfs := flat_step (bs.map Da.lf) k (by rw [List.length_map]; exact hkb)
   rw [bi_lf bs k hkb] at hfs
   obtain ⟨e, he⟩ : ∃ e, Da.lf (bi bs k) = e := ⟨_, rfl⟩
   rw [he] at LE hel hfs
   obtain ⟨E, hE⟩ : ∃ E, (bytesV e).toArray = E := ⟨_, rfl⟩
   rw [hE] at LE
   have hEs : E.size = 32 := by rw [<- hE]; simp [hel]
   have HLE := Lh LE
   have HV2 := Lh hv
   have HB2 := Lh hb
   have HEL := Lh hel
   have HE := Lh hE
   have HES := Lh hEs
   have HFS := Lh hfs
   obtain ⟨L, hL⟩ : ∃ L, (bi bs k).length = L := ⟨_, rfl⟩
   rw [hL] at hc HLE
   have hk0 : (0 : Int) <= (k : Int) := by omega
   have hk1 : (k : Int) < (n : Int) := by omega
   clear LE hel hfs he hE hEs hv hb hr hL hkb
   go_upto_region 5 with fail
   apply wp_region_lit
   iterate 2 (refine wpList_plain rfl (fun K hK => ?_); go_simp; refine hK _ _ ?_; clear hK K)
   (refine wpList_plain rfl (fun K hK => ?_); go_simp)
   refine HLE.out.mono ?_
   rintro e' X2 ⟨rfl, hb2⟩
   refine hK _ _ ?_
   clear hK K HLE
   have hbs := dg_slice_run (tS := 97) Tryz.underlying97 dgI_doc E HES.out X2
   have hba := new12 X2 (.cells E 31)
   have hrow : (X2.alloc (.cells E 31)).rangeAt X2.heap.size 0 (bytesV e) := by rw [<- HE.out]; exact (Arr.made X2 31 (bytesV e)).rng
   have hb3 := Ks HB2.out hb2
   obtain ⟨g2, cap2, Y2, hrun, hown2, hgr2, _⟩ := dg_append_run (tS := 97) Tryz.underlying97 dgI_doc 97 _ w.heap.size _ k _ (own_later12 (own_later12 HV2.out hb2) hba) X2.heap.size e HEL.out hrow (by omega) (Nat.le_trans hb3.size hba.size)
   have hb4 : Below w.heap.size w Y2 := Below.grown (Ks hb3 hba) hgr2 (Ks hb3 hba).size (fun k e => (own_blk HV2.out k e).1)
   rw [<- bytesV_app, <- HFS.out] at hown2
   have HBS := Lh hbs
   have HRUN := Lh hrun
   have HO2 := Lh hown2
   have HB4 := Lh hb4
   clear hbs hba hrow hb3 hrun hown2 hgr2 hb4 hb2
   refine wpList_plain rfl (fun K hK => oper_slice 97 1 _ rfl #[(0, .agg E)] (by first | rfl | simp [Act.eval, Act.put]) _ _ HBS.out (hK _ _ ?_))
   clear hK K
   refine wpList_plain rfl (fun K hK => oper_append (.tmp 13) (.tmp 16) 97 rfl _ _ rfl rfl _ _ HRUN.out (hK _ _ ?_))
   clear hK K HBS HRUN
   go_wp2_with fail
   go_roundw
   case rel => exact ⟨k + 1, _, _, by have := HN.out; omega, by go_num, rfl, HO2.out, HB4.out⟩
   case measure => simp [intOf]; omega
  ·obtain rfl : k = n := by omega
   rw [List.take_of_length_le (by rw [List.length_map, HN.out]; exact Nat.le_refl _)] at hv
   obtain ⟨hnn, o', c', e2, hdg⟩ := own_dg hv (Da.all32.lf bs)
   clear hnn
   have HDG := Lh hdg
   have HB2 := Lh hb
   cases e2
   clear hv hb hdg
   go_wp2_with fail
   go_ret
   exact ⟨_, _, rfl, HDG.out, HB2.out⟩
theorem rover_of (Z : Array Value) (hZ : Z = (bytesV (List.replicate 32 0)).toArray) (hzs : ∀ w, Sem.run Tryz.prog (zeroValue 31) w = .ok (.agg Z) w) :
    ∀ (n : Nat) (ds : List (List UInt8)) (o : Option Addr) (c : Nat) (w : World), ds.length = n -> DgIs w o ds c -> Rds w -> n <= 100000 ->
    Calls Tryz.prog 45 #[.slice o n c] w fun e w' => e = .returned (.agg (bytesV (Da.ov ds)).toArray) /\ Below w.heap.size w w' := by
 intro n
 induction n using Nat.strongRecOn with
 | ind n ih =>
 intro ds o c w hn hR hV hl
 obtain ⟨g, hg⟩ : ∃ g, w.heap.size = g := ⟨_, rfl⟩
 obtain ⟨W1, hW1⟩ : ∃ W1, w.alloc (Obj.cells Z 31) = W1 := ⟨_, rfl⟩
 have hb1 : Below w.heap.size w W1 := by rw [<- hW1]; exact new12 _ _
 have hA1 : Arr W1 g 31 Z.toList := by rw [<- hW1, <- hg]; exact Arr.made _ _ _
 have hcl := hR.le
 have hca := hR.cap
 rw [hn] at hcl
 unfold maxLen at hca
 have hol := Da.ov_length (l := ds) hR.all
 obtain ⟨F, hF⟩ : ∃ F, (bytesV (Da.ov ds)).toArray = F := ⟨_, rfl⟩
 have HFS : Hid ((Tryz.prog.info? 31).map (·.size) = some F.size) := Lh (by rw [d32_info, <- hF]; simp [hol])
 have HFO : Hid (F.all (·.oneCell') = true) := Lh (by rw [<- hF]; exact all_oneCell_toArray (bytesV_one _))
 have HFZ : Hid (Z.size = F.size) := Lh (by rw [hZ, <- hF]; simp [hol])
 have HIH := Lh ih
 have HR1 := Lh (hR.later hb1)
 have HV1 := Lh (hV.later hb1)
 have HA1 := Lh hA1
 have HB1 := Lh hb1
 have HW1 := Lh hW1
 have HF := Lh hF
 have HN := Lh hn
 have HG := Lh hg
 rw [HF.out]
 clear ih hR hV hb1 hA1 hW1 hF hol hZ hn hg
 go_enter Tryz.func45, Tryz.ntmps45
 go_upto_region 1 with fail
 rw [HW1.out, HG.out]
 by_cases h0 : n = 0
 ·subst h0
  obtain rfl : ds = [] := List.eq_nil_of_length_eq_zero HN.out
  have RO := rof_any [] none 0 W1 (RowIs.empty none 0 (Nat.zero_le _) (fun _ => rfl)) HV1.out (by simp)
  rw [<- Da.ov_nil, HF.out, List.length_nil] at RO
  have HRO := Lh RO
  clear RO
  go_upto_region 2 with fail
  apply wp_region_lit
  (refine wpList_plain rfl (fun K hK => ?_); go_simp)
  refine HRO.out.mono ?_
  rintro e W2 ⟨rfl, hb2⟩
  refine hK _ _ ?_
  clear hK K HRO
  have hA2 := HA1.out.later hb2 HA1.out.lt
  have HA2 : Hid (W2.heap[g]? = some (.cells Z 31 (0, 0))) := Lh hA2
  have HGW : Hid ((W2.setRow g F).heap[g]? = some (.cells F 31 (0, 0))) := Lh (setRow_heap _ _ _ _ _ _ hA2)
  have HBW : Hid (Below w.heap.size w (W2.setRow g F)) := Lh ((Ks HB1.out hb2).trans (below_row (Nat.le_of_eq HG.out)))
  clear hA2 hb2
  refine wpList_store_row rfl 31 (.tmp 2) (.tmp 7) rfl g F rfl rfl 31 Z HA2.out HFS.out HFZ.out HFO.out ?_
  go_wp2_with fail
  refine bodyPost_ret (results_cell_row rfl _ _ g 31 F (0, 0) _ rfl HGW.out d32_under rfl HFS.out) rfl ?_
  exact ⟨rfl, HBW.out⟩
 have hd0 : decide ((n : Int) = 0) = false := by simp; omega
 by_cases h1 : n = 1
 ·subst h1
  obtain ⟨b1, off1, rfl, hlt1, hrng⟩ := HR1.out.at_ 0 (by rw [HN.out]; omega)
  have hel := HR1.out.all.at_ (i := 0) (by rw [HN.out]; omega)
  obtain ⟨d, rfl⟩ := List.length_eq_one_iff.1 HN.out
  have eb : bi [d] 0 = d := rfl
  rw [eb, Nat.zero_mul, Nat.add_zero] at hrng
  rw [eb] at hel
  have hF := HF.out
  rw [Da.ov_one] at hF
  have HRNG := Lh hrng
  have HF2 := Lh hF
  have HRS : Hid ((Tryz.prog.info? 31).map (·.size) = some (bytesV d).length) := Lh (by rw [d32_info]; simp [hel])
  have HA2 : Hid (W1.heap[g]? = some (.cells Z 31 (0, 0))) := Lh HA1.out
  have HGW : Hid ((W1.setRow g F).heap[g]? = some (.cells F 31 (0, 0))) := Lh (setRow_heap _ _ _ _ _ _ HA1.out)
  have HBW : Hid (Below w.heap.size w (W1.setRow g F)) := Lh (HB1.out.trans (below_row (Nat.le_of_eq HG.out)))
  clear hrng hel hF eb
  go_upto_region 4 with fail
  apply wp_region_lit
  iterate 2 (refine wpList_plain rfl (fun K hK => ?_); go_simp; refine hK _ _ ?_; clear hK K)
  refine wpList_load_mid rfl 31 (.tmp 12) rfl b1 off1 rfl (bytesV d) _ HRNG.out d32_under rfl HRS.out ?_
  rw [HF2.out]
  refine wpList_store_row rfl 31 (.tmp 2) (.tmp 13) rfl g F rfl rfl 31 Z HA2.out HFS.out HFZ.out HFO.out ?_
  go_wp2_with fail
  refine bodyPost_ret (results_cell_row rfl _ _ g 31 F (0, 0) _ rfl HGW.out d32_under rfl HFS.out) rfl ?_
  exact ⟨rfl, HBW.out⟩
 have hd1 : decide ((n : Int) = 1) = false := by simp; omega
 have RS := rsplit_any n (by omega) (by omega) W1
 obtain ⟨s1, s2, s3⟩ := Da.spl_lt (n := n) (by omega)
 have hov := Da.ov_two (l := ds) (by rw [HN.out]; omega)
 rw [HN.out] at hov
 obtain ⟨k, hk⟩ : ∃ k, Da.spl n = k := ⟨_, rfl⟩
 rw [hk] at RS s1 s2 s3 hov
 have HRS := Lh RS
 obtain ⟨b1, off1, rfl, hlt1, _⟩ := HR1.out.at_ 0 (by rw [HN.out]; omega)
 have hck : ¬ c = k := by omega
 have hkc : k <= c := by omega
 have hkn : k <= n := by omega
 have HOV := Lh hov
 clear RS hk hov
 go_wp2_with fail
 refine HRS.out.mono ?_
 rintro e w1 ⟨rfl, rfl⟩
 rename World => W1
 clear HRS
 go_upto_region 6 with fail
 refine wp_region_any (by kernel_rfl) ?_
 change wpAny _ _ _ _ _ _ _ (World.drew _)
 refine wpAny_take (i := 0) (v := ?va1) rfl (by kernel_rfl) (by kernel_rfl) (by kernel_rfl) (fun _ _ _ h => h) (Or.inl ⟨by rfl, ?ha1⟩) ?ra1
 case ha1 => (intro w; (go_simp <;> with_reducible rfl))
 refine wpAny_take (i := 1) (v := ?va2) rfl (by kernel_rfl) (by kernel_rfl) (by kernel_rfl) (fun _ _ _ h => h) (Or.inl ⟨by rfl, ?ha2⟩) ?ra2
 case ha2 => (intro w; (go_simp <;> with_reducible rfl))
 refine wpAny_take (i := 2) (v := ?va3) rfl (by kernel_rfl) (by kernel_rfl) (by kernel_rfl) (fun _ _ _ h => h) (Or.inl ⟨by rfl, ?ha3⟩) ?ra3
 case ha3 => (intro w; (go_simp <;> with_reducible rfl))
 refine wpAny_take (i := 4) (v := ?va4) rfl (by kernel_rfl) (by kernel_rfl) (by kernel_rfl) (fun _ _ _ h => h) (Or.inl ⟨by rfl, ?ha4⟩) ?ra4
 case ha4 => (intro w; (go_simp <;> with_reducible rfl))
 refine wpAny_take (i := 5) (v := ?va5) rfl (by kernel_rfl) (by kernel_rfl) (by kernel_rfl) (fun _ _ _ h => h) (Or.inl ⟨by rfl, ?ha5⟩) ?ra5
 case ha5 => (intro w; (go_simp <;> with_reducible rfl))
 refine wpAny_take (i := 6) (v := ?va6) rfl (by kernel_rfl) (by kernel_rfl) (by kernel_rfl) (fun _ _ _ h => h) (Or.inl ⟨by rfl, ?ha6⟩) ?ra6
 case ha6 => (intro w; (go_simp <;> with_reducible rfl))
 have hal := HR1.out.all
 have hLk := HR1.out.part 0 k (by rw [HN.out]; omega) c (by omega) (by unfold maxLen; omega)
 rw [Nat.zero_mul, Nat.add_zero, List.drop_zero] at hLk
 have hRk := HR1.out.part k (n - k) (by rw [HN.out]; omega) (c - k) (by omega) (by unfold maxLen; omega)
 rw [List.take_of_length_le (by rw [List.length_drop, HN.out]; exact Nat.le_refl _)] at hRk
 have hdr := Kit.dn' W1 1
 have CL := HIH.out k s2 (ds.take k) _ c W1.drew (by rw [List.length_take, HN.out]; omega) (hLk.later hdr) (HV1.out.later hdr) (by omega)
 have CR := Lh (fun (v : World) (hb : Below W1.drew.heap.size W1.drew v) => HIH.out (n - k) (by omega) (ds.drop k) _ (c - k) v (by rw [List.length_drop, HN.out]) ((hRk.later hdr).later hb) ((HV1.out.later hdr).later hb) (by omega))
 have hll := Da.ov_length (l := ds.take k) (hal.take k)
 have hrl := Da.ov_length (l := ds.drop k) (hal.drop k)
 have NO := Lh (fun (v : World) (hb : Below W1.drew.heap.size W1.drew v) => rnode_any (Da.ov (ds.take k)) (Da.ov (ds.drop k)) hll hrl v ((HV1.out.later hdr).later hb))
 rw [<- HOV.out] at NO
 rw [HF.out] at NO
 obtain ⟨LA, hLA⟩ : ∃ LA, (bytesV (Da.ov (ds.take k))).toArray = LA := ⟨_, rfl⟩
 obtain ⟨RA, hRA⟩ : ∃ RA, (bytesV (Da.ov (ds.drop k))).toArray = RA := ⟨_, rfl⟩
 rw [hLA] at CL NO
 rw [hRA] at CR NO
 have HCL := Lh CL
 have HAD := Lh (HA1.out.later hdr HA1.out.lt)
 have HBD := Lh (Ks HB1.out hdr)
 clear hal hLk hRk hdr CL hll hrl hLA hRA HIH
 refine wpAny_ready (rs := [3]) (by kernel_rfl) (by simp) ?_
 refine AllReady.cons rfl (fun K hK => ?_) AllReady.nil
 go_simp
 refine HCL.out.mono ?_
 rintro e W2 ⟨rfl, hb2⟩
 refine hK _ _ ?_
 clear hK K HCL
 have HC2 := Lh (CR.out W2 hb2)
 have HB2 := Lh hb2
 clear hb2 CR
 refine wpAny_ready (rs := [7]) (by kernel_rfl) (by simp) ?_
 refine AllReady.cons rfl (fun K hK => ?_) AllReady.nil
 go_simp
 refine HC2.out.mono ?_
 rintro e W3 ⟨rfl, hb3⟩
 refine hK _ _ ?_
 clear hK K HC2
 have hb23 := Ks HB2.out hb3
 have HN3 := Lh (NO.out W3 hb23)
 have HB3 := Lh hb23
 clear hb3 hb23 NO
 refine wpAny_ready (rs := [8]) (by kernel_rfl) (by simp) ?_
 refine AllReady.cons rfl (fun K hK => ?_) AllReady.nil
 go_simp
 refine HN3.out.mono ?_
 rintro e W4 ⟨rfl, hb4⟩
 refine hK _ _ ?_
 clear hK K HN3
 have hb := Ks HB3.out hb4
 have hA4 := HAD.out.later hb HAD.out.lt
 have HA4 : Hid (W4.heap[g]? = some (.cells Z 31 (0, 0))) := Lh hA4
 have HGW : Hid ((W4.setRow g F).heap[g]? = some (.cells F 31 (0, 0))) := Lh (setRow_heap _ _ _ _ _ _ hA4)
 have HBW : Hid (Below w.heap.size w (W4.setRow g F)) := Lh ((Ks HBD.out hb).trans (below_row (Nat.le_of_eq HG.out)))
 clear hA4 hb4 hb
 refine wpAny_ready (rs := [9]) (by kernel_rfl) (by simp) ?_
 refine AllReady.cons rfl (fun K hK => ?_) AllReady.nil
 rw [if_pos (by rfl)]
 refine wp_store_row 31 (.tmp 2) (.tmp 25) rfl g F rfl rfl 31 Z HA4.out HFS.out HFZ.out HFO.out (hK _ _ ?_)
 clear hK K
 refine wpAny_done (by kernel_rfl) ?_ _
 go_wp2_with fail
 refine bodyPost_ret (results_cell_row rfl _ _ g 31 F (0, 0) _ rfl HGW.out d32_under rfl HFS.out) rfl ?_
 exact ⟨rfl, HBW.out⟩
theorem rover_any (ds : List (List UInt8)) (o : Option Addr) (n c : Nat) (hn : ds.length = n) (w : World) (hR : DgIs w o ds c) (hV : Rds w) (hl : n <= 100000) :
    Calls Tryz.prog 45 #[.slice o n c] w fun e w' => e = .returned (.agg (bytesV (Da.ov ds)).toArray) /\ Below w.heap.size w w' := rover_of _ rfl d32_zero n ds o c w hn hR hV hl
theorem rroot_of (Z : Array Value) (hZ : Z = (bytesV (List.replicate 32 0)).toArray) (hzs : ∀ w, Sem.run Tryz.prog (zeroValue 31) w = .ok (.agg Z) w)
    (bs : List (List UInt8)) (o : Option Addr) (n c : Nat) (hn : bs.length = n) (w : World) (hR : RbIs w o bs c) (hV : Rds w) (hl : n <= 100000) (hll : ∀ i, i < bs.length -> (bi bs i).length <= 90000) :
    Calls Tryz.prog 15 #[.slice o n c] w fun e w' => e = .returned (.agg (bytesV (Da.mth bs)).toArray) /\ Below w.heap.size w w' := by
 obtain ⟨g, hg⟩ : ∃ g, w.heap.size = g := ⟨_, rfl⟩
 obtain ⟨W1, hW1⟩ : ∃ W1, w.alloc (Obj.cells Z 31) = W1 := ⟨_, rfl⟩
 have hb1 : Below w.heap.size w W1 := by rw [<- hW1]; exact new12 _ _
 have hA1 : Arr W1 g 31 Z.toList := by rw [<- hW1, <- hg]; exact Arr.made _ _ _
 have LV := rleaves_any bs o n c hn W1 (hR.later hb1) (hV.later hb1) hl hll
 have hol := Da.mth_length bs
 obtain ⟨F, hF⟩ : ∃ F, (bytesV (Da.mth bs)).toArray = F := ⟨_, rfl⟩
 have HFS : Hid ((Tryz.prog.info? 31).map (·.size) = some F.size) := Lh (by rw [d32_info, <- hF]; simp [hol])
 have HFO : Hid (F.all (·.oneCell') = true) := Lh (by rw [<- hF]; exact all_oneCell_toArray (bytesV_one _))
 have HFZ : Hid (Z.size = F.size) := Lh (by rw [hZ, <- hF]; simp [hol])
 have HLV := Lh LV
 have HV1 := Lh (hV.later hb1)
 have HA1 := Lh hA1
 have HB1 := Lh hb1
 have HW1 := Lh hW1
 have HF := Lh hF
 have HN := Lh hn
 have HG := Lh hg
 rw [HF.out]
 clear LV hR hV hb1 hA1 hW1 hF hol hZ hn hg hll
 go_enter Tryz.func15, Tryz.ntmps15
 go_upto_region 1 with fail
 rw [HW1.out, HG.out]
 apply wp_region_lit
 (refine wpList_plain rfl (fun K hK => ?_); go_simp; refine hK _ _ ?_; clear hK K)
 (refine wpList_plain rfl (fun K hK => ?_); go_simp)
 refine HLV.out.mono ?_
 rintro e W2 ⟨o2, c2, rfl, hdg, hb2⟩
 refine hK _ _ ?_
 clear hK K HLV
 have RO := rover_any (bs.map Da.lf) o2 n c2 (by rw [List.length_map]; exact HN.out) W2 hdg (HV1.out.later hb2) hl
 rw [show Da.ov (bs.map Da.lf) = Da.mth bs from rfl, HF.out] at RO
 have HRO := Lh RO
 have HA2 := Lh (HA1.out.later hb2 HA1.out.lt)
 have HB2 := Lh (Ks HB1.out hb2)
 clear RO hdg hb2
 (refine wpList_plain rfl (fun K hK => ?_); go_simp)
 refine HRO.out.mono ?_
 rintro e W3 ⟨rfl, hb3⟩
 refine hK _ _ ?_
 clear hK K HRO
 have hA3 := HA2.out.later hb3 HA2.out.lt
 have HA3 : Hid (W3.heap[g]? = some (.cells Z 31 (0, 0))) := Lh hA3
 have HGW : Hid ((W3.setRow g F).heap[g]? = some (.cells F 31 (0, 0))) := Lh (setRow_heap _ _ _ _ _ _ hA3)
 have HBW : Hid (Below w.heap.size w (W3.setRow g F)) := Lh ((Ks HB2.out hb3).trans (below_row (Nat.le_of_eq HG.out)))
 clear hA3 hb3
 refine wpList_store_row rfl 31 (.tmp 2) (.tmp 5) rfl g F rfl rfl 31 Z HA3.out HFS.out HFZ.out HFO.out ?_
 go_wp2_with fail
 refine bodyPost_ret (results_cell_row rfl _ _ g 31 F (0, 0) _ rfl HGW.out d32_under rfl HFS.out) rfl ?_
 exact ⟨rfl, HBW.out⟩
theorem rroot_any (bs : List (List UInt8)) (o : Option Addr) (n c : Nat) (hn : bs.length = n) (w : World) (hR : RbIs w o bs c) (hV : Rds w) (hl : n <= 100000) (hll : ∀ i, i < bs.length -> (bi bs i).length <= 90000) :
    Calls Tryz.prog 15 #[.slice o n c] w fun e w' => e = .returned (.agg (bytesV (Da.mth bs)).toArray) /\ Below w.heap.size w w' := rroot_of _ rfl d32_zero bs o n c hn w hR hV hl hll
end Go.Proofs.YtffheegeaghfjaaGreatDoor

namespace Go.Proofs.YtffheegeaghfjaaGreatDoor
open Go.RowKit
theorem owns_kind {W : World} {n : Nat} {v : Value} {xs : List Value} {m : Nat} (base : Nat) (h : W.ownsRow n 5 1 v m xs) : KindB base W v := by
 obtain ⟨hl, hx⟩ := h
 rcases hx with ⟨rfl, h0⟩ | ⟨g, cap, cur, rfl, hg, hh, h1, h2, hcur, htake⟩
 ·intro ad l c e; cases e
 ·intro ad l c e h0
  cases e
  exact .inr ⟨cur, hh⟩
theorem op_value {P : Program} {ops : Array Oper} {Q : Exit -> Act -> World -> Prop} {i : Nat} {o : Oper} {b : Act} {v v' : World} {x : Value} {K : Act -> World -> Prop} (ho : ops[i]? = some o) (hg : o.guard = none) (hr : (execOp b.eval o).run P v = .ok (.value x) v') (h : K (b.put o.dst x) v') : wpOp P ops Q i K b v := by
 refine op_of ho hg ?_
 unfold Oper.wp
 rw [hr]
 exact h
def RmAt (L : List UInt8) (w : World) (v i : Value) (wr : World) : Prop :=
 ∃ j : Nat, j <= 8 /\ i = .int .i64 j /\ wr.ownsRow w.heap.size 5 1 v j (bytesV (L.take j)) /\ Below w.heap.size w wr
theorem rmask_any (k : List UInt8) (o : Option Addr) (c : Nat) (n : Int) (b : List UInt8) (ob : Option Addr) (cb : Nat) (w : World) (hK : RowIs w o (bytesV k) c) (hB : RowIs w ob (bytesV b) cb) (hV : Rds w) (hkl : k.length <= 90000) :
    Calls Tryz.prog 41 #[.slice o k.length c, .int .i64 n, .slice ob b.length cb] w fun e w' => ∃ x, e = .returned (.tuple #[x, .int .i64 (Da.mb b n : Nat)]) /\ RowV (Da.mk1 k n b) x w' /\ (∀ base, KindB base w' x) /\ Below w.heap.size w w' := by
 have hmf := @makes Tryz.prog
 have RB := Lh (rblk_any k o c n w hK hV hkl)
 have HB := Lh hB
 obtain ⟨L, hL⟩ : ∃ L, b.length = L := ⟨_, rfl⟩
 have hLm : L <= maxLen := by have := hB.le; have h2 := hB.cap; rw [bytesV_length, hL] at this; omega
 unfold maxLen at hLm
 have HL := Lh hL
 rw [hL]
 by_cases h8 : L = 8
 ·subst h8
  have hmb : Da.mb b n = Da.rb n := by unfold Da.mb; rw [if_pos hL]
  have HMB := Lh hmb
  clear hK hB hV hL hLm
  by_cases hr : Da.rb n = 0
  ·have HM1 : Hid (Da.mk1 k n b = Da.xr b (Da.sb k n)) := Lh (by unfold Da.mk1; rw [hmb, if_pos hr]; rfl)
   have hrn : ((Da.rb n : Nat) : Int) = 0 := by rw [hr]; rfl
   have HM0 : Hid (((Da.mb b n : Nat) : Int) = 0) := Lh (by rw [hmb, hr]; rfl)
   have hkr : Da.kres (Da.rb n) (Da.sb k n) = Da.sb k n := by rw [hr]; rfl
   rw [hkr, hrn] at RB
   have hsl := Da.sb_length k n
   obtain ⟨M, hM⟩ : ∃ M, Da.sb k n = M := ⟨_, rfl⟩
   rw [hM] at RB HM1 hsl
   have HML := Lh hsl
   clear hmb hr hrn hkr hM hsl
   go_enter Tryz.func41, Tryz.ntmps41
   go_wp2_with fail
   refine RB.out.mono ?_
   rintro e W1 ⟨x, rfl, hx, hb1⟩
   obtain ⟨om, cm, rfl, hrm⟩ := hx
   rw [HML.out]
   obtain ⟨g1, hg1⟩ : ∃ g1, W1.heap.size = g1 := ⟨_, rfl⟩
   obtain ⟨W2, hW2⟩ : ∃ W2, W1.alloc (.cells #[] 5) = W2 := ⟨_, rfl⟩
   have hb2 : Below W1.heap.size W1 W2 := by rw [<- hW2]; exact (Below.refl _ _).alloc (Nat.le_refl _) _
   have HX0 : Hid (RmAt (Da.xr b M) W1 (.slice (some ⟨g1, 0, none⟩) 0 0) (.int .i64 0) W2) := Lh ⟨0, Nat.zero_le _, rfl, by rw [<- hW2, <- hg1]; exact World.ownsRow_lit W1 #[] 0 (Nat.le_refl _) (Nat.zero_le _) rfl, hb2⟩
   obtain ⟨bb, ofb, rfl, hbl, hcb0⟩ := HB.out.cells (by rw [bytesV_length, HL.out]; decide)
   obtain ⟨bm, ofm, rfl, hbm, hcm0⟩ := hrm.cells (by rw [bytesV_length, HML.out]; decide)
   have HCB := Lh hcb0
   have HCM := Lh hcm0
   have HBL := Lh hbl
   have HBM := Lh hbm
   have HB1 := Lh hb1
   have HB2 := Lh hb2
   have HW2 := Lh hW2
   have HG1 := Lh hg1
   clear hb1 hb2 hrm hg1 hW2 hcb0 hcm0 hbl hbm RB
   go_wp2_with (first | rw [HW2.out, HG1.out])
   go_loopw [10, 27] (fun v i wr => RmAt (Da.xr b M) W1 v i wr) (fun _ i _ => 8 - (intOf i).toNat)
   case atStart => exact HX0.out
   case round =>
    rename World => Y1
    obtain ⟨j, hj, rfl, hown, hb⟩ := hrel
    by_cases hlt : j < 8
    ·obtain ⟨x, hx⟩ : ∃ x, b.getD j 0 = x := ⟨_, rfl⟩
     obtain ⟨y, hy⟩ : ∃ y, M.getD j 0 = y := ⟨_, rfl⟩
     obtain ⟨z, hz⟩ : ∃ z, x ^^^ y = z := ⟨_, rfl⟩
     have hX : bits .xor .u8 (x.toNat : Int) (y.toNat : Int) = (z.toNat : Int) := by
      rw [<- hz, UInt8.toNat_xor]; exact u8_xor_nat _ _ (UInt8.toNat_lt _) (UInt8.toNat_lt _)
     have HS : Hid (∀ v, Below w.heap.size w v -> Below W1.heap.size W1 v -> v.cell? ⟨bb, ofb + j, none⟩ = some (.int .u8 (x.toNat : Int)) /\ v.cell? ⟨bm, ofm + j, none⟩ = some (.int .u8 (y.toNat : Int))) := Lh (fun v h1 h2 => ⟨by
      rw [h1.cell (p := ⟨bb, ofb + j, none⟩) HBL.out]
      exact HCB.out j _ (by rw [bytesV_get b j (by rw [HL.out]; exact hlt), hx]), by
      rw [h2.cell (p := ⟨bm, ofm + j, none⟩) HBM.out]
      exact HCM.out j _ (by rw [bytesV_get M j (by rw [HML.out]; exact hlt), hy])⟩)
     have HE1 : Hid ((Da.xr b M).take j ++ [z] = (Da.xr b M).take (j + 1)) := Lh (by
      have hxl : j < (Da.xr b M).length := by rw [Da.xr_length, HL.out, HML.out]; exact hlt
      rw [List.take_add_one, List.getElem?_eq_getElem hxl]
      have h := Da.xr_at b M j (by rw [HL.out]; exact hlt) (by rw [HML.out]; exact hlt)
      rw [hx, hy, hz] at h
      simp [hxl] at h
      simp [h])
     have HO := Lh hown
     have HYW := Lh hb
     have HY := Lh (Ks HB1.out hb)
     clear hown hb hx hy hz HX0
     go_upto_region 10 with fail
     have hS0 : (fun v : World => v.cell? ⟨bb, ofb + j, none⟩ = some (.int .u8 (x.toNat : Int)) /\ v.cell? ⟨bm, ofm + j, none⟩ = some (.int .u8 (y.toNat : Int))) Y1.drew := HS.out _ HY.out.drew HYW.out.drew
     refine wp_region_held (S := fun v => v.cell? ⟨bb, ofb + j, none⟩ = some (.int .u8 (x.toNat : Int)) /\ v.cell? ⟨bm, ofm + j, none⟩ = some (.int .u8 (y.toNat : Int))) (by kernel_rfl) ?_
     refine wpAnyH_take (i := 0) (v := u10) rfl (by kernel_rfl) (by kernel_rfl) (by kernel_rfl) (fun _ _ _ h => h) (Or.inl ⟨by rfl, fun v hS => by go_simp⟩) hS0 ?_
     refine wpAnyH_take (i := 1) (v := .slice (some ⟨bb, ofb, none⟩) 8 cb) rfl (by kernel_rfl) (by kernel_rfl) (by kernel_rfl) (fun _ _ _ h => h) (Or.inl ⟨by rfl, fun v hS => by go_simp⟩) hS0 ?_
     refine wpAnyH_take (i := 2) (v := .int .i64 j) rfl (by kernel_rfl) (by kernel_rfl) (by kernel_rfl) (fun _ _ _ h => h) (Or.inl ⟨by rfl, fun v hS => by go_simp⟩) hS0 ?_
     refine wpAnyH_take (i := 3) (v := .pointer (some ⟨bb, ofb + j, none⟩)) rfl (by kernel_rfl) (by kernel_rfl) (by kernel_rfl) (fun _ _ _ h => h) (Or.inl ⟨by rfl, fun v hS => by go_simp⟩) hS0 ?_
     refine wpAnyH_take (i := 4) (v := .int .u8 x.toNat) rfl (by kernel_rfl) (by kernel_rfl) (by kernel_rfl) (fun _ _ _ h => h) (Or.inl ⟨by rfl, fun v hS => by have hc := hS.1; go_simp⟩) hS0 ?_
     refine wpAnyH_take (i := 5) (v := .slice (some ⟨bm, ofm, none⟩) 8 cm) rfl (by kernel_rfl) (by kernel_rfl) (by kernel_rfl) (fun _ _ _ h => h) (Or.inl ⟨by rfl, fun v hS => by go_simp⟩) hS0 ?_
     refine wpAnyH_take (i := 6) (v := .int .i64 j) rfl (by kernel_rfl) (by kernel_rfl) (by kernel_rfl) (fun _ _ _ h => h) (Or.inl ⟨by rfl, fun v hS => by go_simp⟩) hS0 ?_
     refine wpAnyH_take (i := 7) (v := .pointer (some ⟨bm, ofm + j, none⟩)) rfl (by kernel_rfl) (by kernel_rfl) (by kernel_rfl) (fun _ _ _ h => h) (Or.inl ⟨by rfl, fun v hS => by go_simp⟩) hS0 ?_
     refine wpAnyH_take (i := 8) (v := .int .u8 y.toNat) rfl (by kernel_rfl) (by kernel_rfl) (by kernel_rfl) (fun _ _ _ h => h) (Or.inl ⟨by rfl, fun v hS => by have hc := hS.2; go_simp⟩) hS0 ?_
     refine wpAnyH_take (i := 9) (v := .int .u8 z.toNat) rfl (by kernel_rfl) (by kernel_rfl) (by kernel_rfl) (fun _ _ _ h => h) (Or.inl ⟨by rfl, fun v hS => by go_simp⟩) hS0 ?_
     obtain ⟨Y2, hY2⟩ : ∃ Y2, Y1.drew.alloc (.cells #[.int .u8 (z.toNat : Int)] 5) = Y2 := ⟨_, rfl⟩
     obtain ⟨gz, hgz⟩ : ∃ gz, Y1.drew.heap.size = gz := ⟨_, rfl⟩
     have hb3 : Below Y1.heap.size Y1 Y2 := by rw [<- hY2]; exact (Kit.dn' Y1 1).alloc (Nat.le_refl _) _
     have hz3 : RowIs Y2 (some ⟨gz, 0, none⟩) (bytesV [z]) 1 := by rw [<- hY2, <- hgz]; exact one_row Y1.drew z
     refine wpAnyH_all (rs := [10]) (by kernel_rfl) (by simp) (fun i hi => ?_)
     obtain rfl : i = 10 := by simpa using hi
     refine op_value (x := .slice (some ⟨gz, 0, none⟩) 1 1) (v' := Y2) rfl rfl (by rw [<- hY2, <- hgz]; go_simp) ⟨HS.out _ (Ks HY.out hb3) (Ks HYW.out hb3), ?_⟩
     refine wpAnyH_all (rs := [11]) (by kernel_rfl) (by simp) (fun i hi => ?_)
     obtain rfl : i = 11 := by simpa using hi
     have hown2 : Y2.ownsRow W1.heap.size 5 1 u10 j (bytesV ((Da.xr b M).take j)) := own_later8 HO.out hb3
     refine op_of rfl rfl (wp_append_row (.tmp 30) (.tmp 40) rfl W1.heap.size u10 j _ (by go_simp) hown2 (some ⟨gz, 0, none⟩) 1 1 [z] (by go_simp) rfl hz3 (by omega) (Ks HYW.out hb3).size fun v4 Y4 hv4 hg4 => ?_)
     have hb4 := own_below (n := 0) (Ks HYW.out hb3) hown2 hg4
     have HX1 : Hid (RmAt (Da.xr b M) W1 v4 (.int .i64 ((j + 1 : Nat) : Int)) Y4) := Lh ⟨j + 1, by omega, rfl, by rw [<- HE1.out]; exact hv4, hb4⟩
     refine ⟨HS.out _ (Ks HB1.out hb4) hb4, ?_⟩
     refine wpAnyH_all (rs := [12]) (by kernel_rfl) (by simp) (fun i hi => ?_)
     obtain rfl : i = 12 := by simpa using hi
     refine op_value (x := v4) (v' := Y4) rfl rfl (by go_simp) ⟨HS.out _ (Ks HB1.out hb4) hb4, ?_⟩
     refine wpAnyH_done (by kernel_rfl) ?_ _
     clear hv4 hg4 hb4 hown2 hz3 hb3 hY2 hgz hS0
     go_wp2_with fail
     exact ⟨HX1.out, by simp [intOf]; omega⟩
    ·obtain rfl : j = 8 := by omega
     have HXL : Hid ((Da.xr b M).take 8 = Da.xr b M) := Lh (List.take_of_length_le (by rw [Da.xr_length, HL.out, HML.out]; decide))
     have HV : Hid (RowV (Da.mk1 k n b) u10 Y1) := Lh (by rw [HM1.out]; have := owns_rv hown (by rw [List.length_take, Da.xr_length, HL.out, HML.out]; rfl); rwa [HXL.out] at this)
     have HKB : Hid (∀ base, KindB base Y1 u10) := Lh (fun base => owns_kind base hown)
     have HBB := Lh (Ks HB1.out hb)
     clear hown hb HX0
     go_wp2_with fail
     refine bodyPost_ret (results_tmp2 rfl _ _ _) rfl ?_
     exact ⟨_, by rw [HM0.out]; rfl, HV.out, HKB.out, HBB.out⟩
  ·have HM1 : Hid (Da.mk1 k n b = []) := Lh (by unfold Da.mk1; rw [hmb, if_neg hr])
   obtain ⟨q, hq⟩ : ∃ q, Da.rb n = q + 1 := ⟨Da.rb n - 1, by omega⟩
   have HM0 : Hid (((Da.mb b n : Nat) : Int) = ((q + 1 : Nat) : Int)) := Lh (by rw [hmb, hq])
   have hq1 : (((q + 1 : Nat) : Int) != 0) = true := by rw [bne_iff_ne]; omega
   rw [hq] at RB
   obtain ⟨Q, hQ⟩ : ∃ Q : Int, ((q + 1 : Nat) : Int) = Q := ⟨_, rfl⟩
   rw [hQ] at RB HM0 hq1
   clear hmb hr hq hQ
   go_enter Tryz.func41, Tryz.ntmps41
   go_wp2_with fail
   refine RB.out.mono ?_
   rintro e W1 ⟨x, rfl, _, hb1⟩
   have HB1 := Lh hb1
   clear hb1 RB
   go_wp2_with fail
   refine bodyPost_ret (results_tmp2 rfl _ _ _) rfl ?_
   exact ⟨_, by rw [HM0.out]; rfl, by rw [HM1.out]; exact RowV.nil _, fun base ad l c e => (by cases e), HB1.out⟩
 ·have hm : Da.mb b n = 8 := by
   unfold Da.mb
   rw [hL, if_neg h8]
  have HM1 : Hid (Da.mk1 k n b = []) := Lh (by unfold Da.mk1; rw [hm, if_neg (by decide)])
  have HM0 : Hid (((Da.mb b n : Nat) : Int) = 8) := Lh (by rw [hm]; rfl)
  have hd1 : ((L : Int) != 8) = true := by rw [bne_iff_ne]; omega
  clear hK hB hV hL RB hm
  go_enter Tryz.func41, Tryz.ntmps41
  go_wp2_with fail
  refine bodyPost_ret (results_tmp2 rfl _ _ _) rfl ?_
  exact ⟨_, by rw [HM0.out]; rfl, by rw [HM1.out]; exact RowV.nil _, fun base ad l c e => (by cases e), Below.refl _ _⟩
end Go.Proofs.YtffheegeaghfjaaGreatDoor

namespace Go.Proofs.YtffheegeaghfjaaGreatDoor
open Go.RowKit
theorem zero_row (w : World) : RowIs (w.alloc (.cells #[.int .u8 0] 5)) (some ⟨w.heap.size, 0, none⟩) (bytesV [0]) 1 :=
 row_cells (z := [0]) (World.alloc_heap_new w _) (by unfold maxLen; simp)
theorem byte_row (w : World) (x : UInt8) : RowIs (w.alloc (.cells #[.int .u8 (x.toNat : Int)] 5)) (some ⟨w.heap.size, 0, none⟩) (bytesV [x]) 1 :=
 row_cells (z := [x]) (World.alloc_heap_new w _) (by unfold maxLen; simp)
def RpAt (f : List UInt8) (N : Nat) (w : World) (v : Value) (wr : World) : Prop :=
 ∃ d L : Nat, L = f.length + d /\ L <= N /\ wr.ownsRow w.heap.size 5 1 v L (bytesV (f ++ List.replicate d 0)) /\ Below w.heap.size w wr
theorem rpad_any (f : List UInt8) (o : Option Addr) (c : Nat) (w : World) (hP : RowIs w o (bytesV f) c) (hl : f.length <= 100000) :
    Calls Tryz.prog 81 #[.slice o f.length c] w (Rows (padL f) w) := by
 have h1 := hP.le
 have h2 := hP.cap
 simp only [bytesV_length] at h1
 unfold maxLen at h2
 have hle := nbk_le f.length
 have hdef : nbk f.length = if f.length = 0 then 1 else (f.length + 7) / 8 := rfl
 obtain ⟨N, hN⟩ : ∃ N, 8 * nbk f.length = N := ⟨_, rfl⟩
 have HNP : Hid (padL f = f ++ List.replicate (N - f.length) 0) := Lh (by rw [<- hN]; rfl)
 have hN1 : f.length <= N := by omega
 have HMIN : Hid (∀ L, f.length <= L -> L < N -> L = 0 ∨ (L ≠ 0 /\ L % 8 ≠ 0)) := Lh fun L h1 h2 => by
  rw [hdef] at hN
  split at hN <;> omega
 have HMUL : Hid (N % 8 = 0 /\ N ≠ 0) := Lh (by
  have := nbk_pos f.length
  omega)
 have hNb : N <= 200000 := by
  rw [hdef] at hN
  split at hN <;> omega
 obtain ⟨w1, hw1⟩ : ∃ w1, w.alloc (.cells #[] 5) = w1 := ⟨_, rfl⟩
 have HO1 : Hid (w1.ownsRow w.heap.size 5 1 (.slice (some ⟨w.heap.size, 0, none⟩) 0 0) 0 (bytesV [])) := Lh (by rw [<- hw1]; exact World.ownsRow_lit w #[] 0 (Nat.le_refl _) (Nat.zero_le _) rfl)
 have hb1 : Below w.heap.size w w1 := by rw [<- hw1]; exact below_new _ _
 have HB1 := Lh hb1
 have HP1 := Lh (hP.later hb1)
 have HW1 := Lh hw1
 clear hP hle hdef hN hb1 hw1
 go_enter Tryz.func81, Tryz.ntmps81
 go_wp2_with (first | rw [HW1.out] | (at_builtin; refine append_row rfl (.tmp 4) (.tmp 5) rfl w.heap.size _ 0 [] rfl HO1.out o f.length c f rfl rfl HP1.out (by omega) HB1.out.size ?_))
 intro v2 w2 hv hg
 have HV : Hid (w2.ownsRow w.heap.size 5 1 v2 f.length (bytesV (f ++ List.replicate 0 0))) := Lh (by simpa using hv)
 have HB2 := Lh (own_below (n := 0) HB1.out HO1.out hg)
 clear hv hg
 go_wp2_with fail
 go_loopw [3] (fun v wr => RpAt f N w v wr) (fun v _ => N - slen v)
 case atStart => exact ⟨0, f.length, rfl, hN1, HV.out, HB2.out⟩
 case round =>
  obtain ⟨d, L, hL, hLN, hv, hb⟩ := hrel
  have HV2 := Lh hv
  have HB := Lh hb
  have HL := Lh hL
  obtain ⟨ov, cv, rfl, _⟩ := owns_is hv (by simp [bytesV]; omega)
  have hL2 : f.length <= L := by omega
  clear hv hb hL
  by_cases hlt : L < N
  ·have hcase := HMIN.out L hL2 hlt
   obtain ⟨w3, hw3⟩ : ∃ w3, wr.alloc (.cells #[.int .u8 0] 5) = w3 := ⟨_, rfl⟩
   have HO3 : Hid (w3.ownsRow w.heap.size 5 1 _ L (bytesV (f ++ List.replicate d 0))) := Lh (by rw [<- hw3]; exact World.ownsRow.alloc HV2.out _)
   have HZ3 : Hid (RowIs w3 (some ⟨wr.heap.size, 0, none⟩) (bytesV [0]) 1) := Lh (by rw [<- hw3]; exact zero_row wr)
   have HB3 : Hid (Below w.heap.size w w3) := Lh (by rw [<- hw3]; exact HB.out.alloc HB.out.size _)
   have HW3 := Lh hw3
   clear hw3
   rcases hcase with h0 | ⟨h0, h8⟩
   ·subst h0
    go_wp2_with (first | rw [HW3.out] | (at_builtin; refine append_row rfl (.tmp 16) (.tmp 17) rfl w.heap.size _ 0 (f ++ List.replicate d 0) rfl HO3.out _ 1 1 [0] rfl rfl HZ3.out (by omega) HB3.out.size ?_))
    intro v' w4 hv hg
    have HV4 : Hid (w4.ownsRow w.heap.size 5 1 v' (0 + 1) (bytesV (f ++ List.replicate (d + 1) 0))) := Lh (by
     rw [List.replicate_succ']; exact hv)
    have HB4 := Lh (own_below (n := 0) HB3.out HO3.out hg)
    obtain ⟨ov', cv', rfl, _⟩ := owns_is HV4.out (by simp [bytesV]; have := HL.out; omega)
    clear hv hg
    go_wp2_with fail
    go_roundw
    case rel => exact ⟨d + 1, 0 + 1, by have := HL.out; omega, by omega, HV4.out, HB4.out⟩
    case measure => simp [slen]; omega
   ·have hd1 : ((L : Int) == 0) = false := beq_false_of_ne (by omega)
    have hd2 : decide ((L : Int) = 0) = false := decide_eq_false (by omega)
    have hd3 : ((L : Int) % 8 == 0) = false := beq_false_of_ne (by omega)
    have hd4 : ((L : Int) % 8 != 0) = true := by rw [bne_iff_ne]; omega
    have hd5 : ¬ L = 0 := h0
    have hd6 : ¬ L % 8 = 0 := h8
    go_wp2_with (first | rw [HW3.out] | (at_builtin; refine append_row rfl (.tmp 16) (.tmp 17) rfl w.heap.size _ L (f ++ List.replicate d 0) rfl HO3.out _ 1 1 [0] rfl rfl HZ3.out (by omega) HB3.out.size ?_))
    intro v' w4 hv hg
    have HV4 : Hid (w4.ownsRow w.heap.size 5 1 v' (L + 1) (bytesV (f ++ List.replicate (d + 1) 0))) := Lh (by
     rw [List.replicate_succ']; exact hv)
    have HB4 := Lh (own_below (n := 0) HB3.out HO3.out hg)
    obtain ⟨ov', cv', rfl, _⟩ := owns_is HV4.out (by simp [bytesV]; have := HL.out; omega)
    clear hv hg
    go_wp2_with fail
    go_roundw
    case rel => exact ⟨d + 1, L + 1, by have := HL.out; omega, by omega, HV4.out, HB4.out⟩
    case measure => simp [slen]; omega
  ·have hLN2 : L = N := by omega
   subst hLN2
   have h8 := HMUL.out.1
   have h0 := HMUL.out.2
   have hd1 : ((L : Int) == 0) = false := beq_false_of_ne (by omega)
   have hd2 : decide ((L : Int) = 0) = false := decide_eq_false (by omega)
   have hd3 : ((L : Int) % 8 == 0) = true := by rw [beq_iff_eq]; omega
   have hd4 : ((L : Int) % 8 != 0) = false := by
    have : ((L : Int) % 8) = 0 := by omega
    rw [this]; rfl
   have hd7 : (L : Int) % 8 = 0 := by omega
   have HR : Hid (RowV (padL f) (.slice ov L cv) wr) := Lh (by
    have e : List.replicate (L - f.length) (0 : UInt8) = List.replicate d 0 := by congr 1; have := HL.out; omega
    rw [HNP.out, e]
    exact owns_rv HV2.out (by simp; exact HL.out))
   clear h8 hlt
   go_wp2_with fail
   go_ret
   exact ⟨_, rfl, HR.out, HB.out⟩
def SlAt (n : Nat) (w : World) (iv : Value) (wr : World) : Prop := ∃ k : Nat, k <= n /\ iv = .int .i64 k /\ Kit.Dn w wr
theorem same_lists (bs : List (List UInt8)) (o o2 : Option Addr) (n c c2 : Nat) (w : World) (h1 : RbIs w o bs c) (h2 : RbIs w o2 bs c2) (hn : bs.length = n) :
    Calls Tryz.prog 13 #[.slice o n c, .slice o2 n c2] w fun e w' => e = .returned (.bool true) /\ Kit.Dn w w' := by
 have ha := h1.le.1
 have hb := h1.le.2
 have hc := h2.le.1
 have hd := h2.le.2
 rw [hn] at ha hc
 unfold maxLen at hb hd
 have H1 := Lh h1
 have H2 := Lh h2
 have HN := Lh hn
 clear h1 h2 hn
 go_enter Tryz.func13, Tryz.ntmps13
 go_wp2_with fail
 go_loopw [5, 13] (fun _ iv wr => SlAt n w iv wr) (fun _ iv _ => n - (intOf iv).toNat)
 case atStart => exact ⟨0, Nat.zero_le _, rfl, Kit.Dn.refl _⟩
 case round =>
  obtain ⟨k, hk, rfl, hdn⟩ := hrel
  have HD := Lh hdn
  by_cases hlt : k < n
  ·obtain ⟨b1, off1, p1, q1, rfl, _, hc1, hr1⟩ := (H1.out.later hdn.below).cell k (by have := HN.out; omega)
   obtain ⟨b2, off2, p2, q2, rfl, _, hc2, hr2⟩ := (H2.out.later hdn.below).cell k (by have := HN.out; omega)
   have k1 : ∀ nq, (convert 22 9 (.slice p1 (bi bs k).length q1)).run Tryz.prog (wr.drewN nq) = .ok (.string ⟨(bi bs k).toArray⟩) (wr.drewN nq) := fun nq =>
    run_string (hr1.later (Kit.dn' wr nq)) Tryz.underlying22 Tryz.underlying5 Tryz.underlying9 _
   have k2 : ∀ nq, (convert 22 9 (.slice p2 (bi bs k).length q2)).run Tryz.prog (wr.drewN nq) = .ok (.string ⟨(bi bs k).toArray⟩) (wr.drewN nq) := fun nq =>
    run_string (hr2.later (Kit.dn' wr nq)) Tryz.underlying22 Tryz.underlying5 Tryz.underlying9 _
   have hk0 : (0 : Int) <= (k : Int) := by omega
   have hk1 : (k : Int) < (n : Int) := by omega
   generalize (bi bs k).length = L at *
   generalize (⟨(bi bs k).toArray⟩ : ByteArray) = s at *
   clear hr1 hr2 hdn
   go_wp2_with fail
   go_quiet (fail)
   go_wp2_with fail
   go_roundw
   case rel => exact ⟨k + 1, by omega, by go_num, HD.out.add _⟩
   case measure => simp [intOf]; omega
  ·obtain rfl : k = n := by omega
   clear hdn
   go_wp2_with fail
   go_ret
   exact ⟨rfl, HD.out⟩
def ArrB (W : World) (R : Nat) (f : Nat -> Value) : Prop := W.heap[R]? = some (.cells ((List.range 8).map f).toArray 155 (0, 0))
theorem ArrB.cell {W : World} {R : Nat} {f : Nat -> Value} (h : ArrB W R f) (i : Nat) (hi : i < 8) : W.cell? ⟨R, i, none⟩ = some (f i) := by
 rw [cell_of_row _ _ i _ _ _ h]
 simp [hi]
theorem ArrB.frozen {W : World} {R : Nat} {f : Nat -> Value} (h : ArrB W R f) (i : Nat) : W.frozen? ⟨R, i, none⟩ = false := by
 unfold World.frozen?; rw [show W.heap[R]? = _ from h]; rfl
theorem ArrB.lt {W : World} {R : Nat} {f : Nat -> Value} (h : ArrB W R f) : R < W.heap.size := (aE.1 h).1
theorem ArrB.later {W W' : World} {R : Nat} {f : Nat -> Value} (h : ArrB W R f) (hb : Below W.heap.size W W') : ArrB W' R f := by
 unfold ArrB at *
 rw [hb.block R (aE.1 h).1]; exact h
theorem ArrB.grown {W W' : World} {R : Nat} {f : Nat -> Value} {r : Option Nat} (h : ArrB W R f) (hg : W.grownBy W' r) (hne : r ≠ some R) : ArrB W' R f := by
 unfold ArrB at *
 rw [hg.block R (aE.1 h).1 (fun e => hne e.symm)]; exact h
theorem ArrB.store {W : World} {R : Nat} {f : Nat -> Value} (h : ArrB W R f) (i : Nat) (v : Value) : ArrB (W.setCell ⟨R, i, none⟩ v) R (fun j => if j = i then v else f j) /\ Only R W (W.setCell ⟨R, i, none⟩ v) := by
 have e1 := setCell_eq_setRow W R i _ _ _ v h
 have h1 := setRow_heap W R _ (((List.range 8).map f).toArray.setIfInBounds i v) _ _ h
 rw [<- e1] at h1
 refine ⟨?_, ?_⟩
 ·unfold ArrB
  rw [h1]
  congr 2
  apply Array.ext_getElem?
  intro k
  rw [Array.getElem?_setIfInBounds]
  by_cases hk : i = k
  ·subst hk
   by_cases hn : i < 8
   ·simp [hn]
   ·simp [hn]
  ·rw [if_neg hk]
   by_cases hn : k < 8
   ·simp [hn]
    exact fun h => absurd h.symm hk
   ·simp [hn]
 ·rw [e1]
  exact ⟨rfl, rfl, rfl, by simp [World.setRow], fun k hk hn => setRow_other W R k _ (fun e => hn (by rw [e]))⟩
def zarr : Array Value := Array.replicate 8 (.slice none 0 0)
theorem arr_built : Tryz.prog.built 155 [] = some zarr := by kernel_rfl
theorem zarr_one : zarr.all (·.oneCell') = true := by kernel_rfl
theorem arr_sizeRb : (Tryz.prog.info? 155).map (·.size) = some 8 := by kernel_rfl
theorem zarr_zero (w : World) : Sem.run Tryz.prog (zeroValue 155) w = .ok (.agg zarr) w := by kernel_rfl
def RowK (z : List UInt8) (x : Value) (W : World) : Prop := RowV z x W /\ ∃ g off l q cur, x = .slice (some ⟨g, off, none⟩) l q /\ W.heap[g]? = some (.cells cur 5 (0, 0))
theorem RowK.later {z : List UInt8} {x : Value} {W W' : World} (h : RowK z x W) (hb : Below W.heap.size W W') : RowK z x W' := by
 obtain ⟨h1, g, off, l, q, cur, e, h2⟩ := h
 exact ⟨h1.later hb, g, off, l, q, cur, e, by rw [hb.block g (aE.1 h2).1]; exact h2⟩
theorem RowK.grown {z : List UInt8} {x : Value} {W W' : World} {r : Option Nat} (h : RowK z x W) (hg : W.grownBy W' r) (hr : ∀ k, r = some k -> ∃ cur T f, W.heap[k]? = some (.cells cur T f) /\ T ≠ 5) : RowK z x W' := by
 obtain ⟨⟨o, c, e1, h1⟩, g, off, l, q, cur, rfl, h2⟩ := h
 cases e1
 have hgl := (aE.1 h2).1
 have hne : some g ≠ r := fun e => by
  obtain ⟨cur', T, f, h3, h4⟩ := hr g e.symm
  rw [h2] at h3
  injection h3 with h3
  injection h3 with _ h3 _
  exact h4 h3.symm
 have hb := hg.block g hgl hne
 refine ⟨⟨_, _, rfl, h1.le, h1.cap, h1.nil, fun h0 => ?_⟩, g, off, _, _, cur, rfl, by rw [hb]; exact h2⟩
 obtain ⟨b', off', e, hlt, hc⟩ := h1.cells h0
 cases e
 refine ⟨g, off, rfl, Nat.lt_of_lt_of_le hgl hg.size, fun i v hv => ?_⟩
 have := hc i v hv
 unfold World.cell? at *
 rw [hb]; exact this
theorem blk_drop (p : List UInt8) (A j : Nat) : blk (p.drop (8 * A)) j = blk p (A + j) := by
 refine list_ext (by simp) fun i hi => ?_
 have hi : i < 8 := by simpa using hi
 rw [co_blk _ _ _ hi, co_blk _ _ _ hi]
 unfold co
 rw [List.getD_eq_getElem?_getD, List.getD_eq_getElem?_getD, List.getElem?_drop]
 congr 2; omega
theorem co_dropB (p : List UInt8) (n i : Nat) : co (p.drop n) i = co p (n + i) := by
 unfold co
 rw [List.getD_eq_getElem?_getD, List.getD_eq_getElem?_getD, List.getElem?_drop]
def clm (p : List UInt8) (A j i : Nat) : List UInt8 := tab (fun t => co p (8 * (A + t) + j)) i
theorem clm_succ (p : List UInt8) (A j i : Nat) : clm p A j i ++ [co p (8 * (A + i) + j)] = clm p A j (i + 1) := tab_succ _ _
theorem clm_full (p : List UInt8) (A j s : Nat) (hj : j < 8) : clm p A j s = colB (dat p A s) j := by
 refine list_ext (by simp [clm]) fun i hi => ?_
 have hi : i < s := by simpa [clm] using hi
 unfold clm
 rw [co_tab _ _ _ hi, co_colB _ _ _ (by simpa using hi), bi_dat _ _ _ _ hi]
 unfold colV
 rw [if_pos (blk_length _ _), co_blk _ _ _ hj]
def pbk (D : List (List UInt8)) (i j : Nat) : List UInt8 := tab (fun t => co (parL (colB D t)) i) j
theorem pbk_succ (D : List (List UInt8)) (i j : Nat) : pbk D i j ++ [co (parL (colB D j)) i] = pbk D i (j + 1) := tab_succ _ _
theorem parB_take (D : List (List UInt8)) (i : Nat) (h : i < 32) : (parB D).take i ++ [pbk D i 8] = (parB D).take (i + 1) := by
 rw [List.take_add_one, List.getElem?_eq_getElem (by simpa using h)]
 simp [parB, pbk]
structure OutI (w : World) (bs : List (List UInt8)) (v7 : Value) (n : Nat) (xs : List Value) (wr : World) : Prop where
 own : wr.ownsRow w.heap.size 22 1 v7 n xs
 els : ElsB 0 wr bs xs
 below : Below w.heap.size w wr
theorem OutI.later {w wr wr' : World} {bs : List (List UInt8)} {v7 : Value} {n : Nat} {xs : List Value} (h : OutI w bs v7 n xs wr) (hb : Below wr.heap.size wr wr') : OutI w bs v7 n xs wr' :=
 ⟨World.ownsRow.kept (row := none) h.own ⟨hb.os, hb.tape, hb.output, hb.size, fun i hi _ => hb.block i hi⟩ (by cases v7.ownBlock <;> simp), h.els.later hb, Ks h.below hb⟩
theorem OutI.add {w wr w' : World} {bs : List (List UInt8)} {b : List UInt8} {v7 v' : Value} {n g cap l : Nat} {xs : List Value} (h : OutI w bs v7 n xs wr) (hb : Buf wr g cap b) (hl : b.length = l)
    (hown : w'.ownsRow w.heap.size 22 1 v' (n + 1) (xs ++ [.slice (some ⟨g, 0, none⟩) l cap])) (hg : wr.grownBy w' v7.ownBlock) : OutI w (bs ++ [b]) v' (n + 1) (xs ++ [.slice (some ⟨g, 0, none⟩) l cap]) w' := by
 subst hl
 exact ⟨hown, (h.els.app (ElsB.one ⟨_, cap, rfl, hb.row⟩ (hb.kind 0))).grown h.own hg (Nat.zero_le _), own_belowB h.below h.own hg⟩
theorem hdr_row (w : World) (x : Value) : RowIs (w.alloc (.cells #[x] 22)) (some ⟨w.heap.size, 0, none⟩) [x] 1 :=
 ⟨Nat.le_refl _, by unfold maxLen; omega, (fun e => by cases e), fun _ => ⟨w.heap.size, 0, rfl, by simp, fun i v hv => by
  match i, hv with
  | 0, hv =>
   rw [cell_new _ _ _ _ rfl]
   exact hv
  | i + 1, hv => simp at hv⟩⟩
def RkAt (p : List UInt8) (l : List Nat) (w : World) (v6 v7 iv : Value) (wr : World) : Prop :=
 ∃ (k A n : Nat) (xs : List Value), k <= l.length /\ A = sumN (l.take k) /\ iv = .int .i64 k /\ RowV (p.drop (8 * A)) v6 w /\ n = (grps p 0 (l.take k)).length /\ OutI w (grps p 0 (l.take k)) v7 n xs wr
def R2At (G : List (List UInt8)) (p : List UInt8) (A s : Nat) (w : World) (v7 jv : Value) (wr : World) : Prop :=
 ∃ (j n : Nat) (xs : List Value), j <= s /\ jv = .int .i64 j /\ n = G.length + j /\ OutI w (G ++ dat p A j) v7 n xs wr
theorem RowIs.dropB {W : World} {b off : Nat} {z : List UInt8} {c : Nat} (h : RowIs W (some ⟨b, off, none⟩) (bytesV z) c) (k : Nat) (hk : k <= z.length) : RowIs W (some ⟨b, off + k, none⟩) (bytesV (z.drop k)) (c - k) := by
 have h1 := h.le
 have h2 := h.cap
 rw [bytesV_length] at h1
 have h3 := h.part k (z.length - k) (by rw [bytesV_length]; omega) (c - k) (by omega) (by omega)
 have e : ((bytesV z).drop k).take (z.length - k) = bytesV (z.drop k) := by
  unfold bytesV
  rw [List.map_drop, List.take_of_length_le (by simp)]
 rwa [e] at h3
theorem ArrB.ne_own {W : World} {R n base : Nat} {f : Nat -> Value} {v : Value} {xs : List Value} (h : ArrB W R f) (own : W.ownsRow base 22 1 v n xs) : v.ownBlock ≠ some R := fun e => by
 rcases own.2 with ⟨rfl, _⟩ | ⟨g, cap, cur2, rfl, _, h2, _⟩
 ·cases e
 ·cases e
  unfold ArrB at h
  rw [h] at h2
  cases h2
def R3At (D : List (List UInt8)) (R : Nat) (w : World) (iv : Value) (wr : World) : Prop :=
 ∃ (t : Nat) (f : Nat -> Value), t <= 8 /\ iv = .int .i64 t /\ ArrB wr R f /\ (∀ i, i < t -> RowK (parL (colB D i)) (f i) wr) /\ Below w.heap.size w wr
def R4At (p : List UInt8) (A t s : Nat) (w : World) (v iv : Value) (wr : World) : Prop :=
 ∃ i : Nat, i <= s /\ iv = .int .i64 i /\ wr.ownsRow w.heap.size 5 1 v i (bytesV (clm p A t i)) /\ Below w.heap.size w wr
def R5At (D B : List (List UInt8)) (R n2 : Nat) (f : Nat -> Value) (w : World) (v7 iv : Value) (wr : World) : Prop :=
 ∃ (i n : Nat) (xs : List Value), i <= 32 /\ iv = .int .i64 i /\ n = n2 + i /\ OutI w (B ++ (parB D).take i) v7 n xs wr /\ ArrB wr R f /\ (∀ t, t < 8 -> RowK (parL (colB D t)) (f t) wr)
def R6At (D : List (List UInt8)) (i : Nat) (w : World) (v tv : Value) (wr : World) : Prop :=
 ∃ t : Nat, t <= 8 /\ tv = .int .i64 t /\ wr.ownsRow w.heap.size 5 1 v t (bytesV (pbk D i t)) /\ Below w.heap.size w wr
theorem rblocks_any (f : List UInt8) (o : Option Addr) (c : Nat) (w : World) (hR : RowIs w o (bytesV f) c) (hl : f.length <= 2000) (Z : Array Value) (hZ : zarr = Z) :
    Calls Tryz.prog 40 #[.slice o f.length c] w fun e w' => ∃ x, e = .returned (.tuple #[x, .int .i64 0]) /\ RbV (allB f) x w' /\ Below w.heap.size w w' := by
 have h1 := hR.le
 have h2 := hR.cap
 simp only [bytesV_length] at h1
 unfold maxLen at h2
 have HR := Lh hR
 have hs := rshape_any f.length w hl
 have hnb := nbk_bd f.length hl
 have hnp := nbk_pos f.length
 have hll := shp_len f.length
 have hss := shp_sum f.length
 have hmem : ∀ k ∈ shp f.length, 1 <= k /\ k <= 223 := shpN_mem (nbk f.length) hnp hnb
 have hpl := padL_length f
 have hall : allB f = grps (padL f) 0 (shp f.length) := rfl
 obtain ⟨l, hlq⟩ : ∃ l, shp f.length = l := ⟨_, rfl⟩
 obtain ⟨m, hmq⟩ : ∃ m, nbk f.length = m := ⟨_, rfl⟩
 obtain ⟨p, hpq⟩ : ∃ p, padL f = p := ⟨_, rfl⟩
 have HPD : Hid (∀ v, Below w.heap.size w v -> Calls Tryz.prog 81 #[.slice o f.length c] v (Rows p v)) := Lh fun v hb => by
  have := rpad_any f o c v (hR.later hb) (by omega)
  rwa [hpq] at this
 rw [hlq] at hs hll hss hmem hall
 rw [hmq] at hnb hnp hss hpl
 rw [hpq] at hpl hall
 have HS := Lh hs
 have HSS := Lh hss
 have HMM := Lh hmem
 have HPL := Lh hpl
 have HALL := Lh hall
 have hbu := arr_built
 have hzs := zarr_zero
 have hsz := arr_sizeRb
 rw [hZ] at hbu hzs
 have HBU := Lh hbu
 have HZ := Lh hZ
 have HSZ : Hid ((Tryz.prog.info? 155).map (·.size) = some Z.size) := Lh (by rw [arr_sizeRb, <- hZ]; rfl)
 have HST1 : Hid (Z.all (·.oneCell') = true) := Lh (by rw [<- hZ]; exact zarr_one)
 clear hR hs hss hmem hpl hall hlq hmq hpq hbu hZ hsz
 go_enter Tryz.func40, Tryz.ntmps40
 go_wp2_with fail
 refine HS.out.mono ?_; rintro e w1 ⟨x, rfl, ⟨o1, c1, rfl, hr⟩, hb⟩
 have hc1 := hr.cap
 have hle1 := hr.le
 simp at hle1
 unfold maxLen at hc1
 have HB1 := Lh hb
 have HR1 := Lh hr
 rw [natI_length]
 clear hb hr HS
 go_wp2_with fail
 refine (HPD.out _ HB1.out).mono ?_; rintro e w2 ⟨x6, rfl, hx6, hb⟩
 have HB2 := Lh (Ks HB1.out hb)
 have HR2 := Lh (HR1.out.later hb)
 have HX6 := Lh hx6
 obtain ⟨w3, hw3⟩ : ∃ w3, w2.alloc (.cells #[] 22) = w3 := ⟨_, rfl⟩
 have HO3 : Hid (OutI w2 [] (.slice (some ⟨w2.heap.size, 0, none⟩) 0 0) 0 [] w3) := Lh (by
  rw [<- hw3]
  exact ⟨World.ownsRow_lit w2 #[] 0 (Nat.le_refl _) (Nat.zero_le _) rfl, ElsB.nil _ _, below_new _ _⟩)
 have HW3 := Lh hw3
 clear hb hx6 hw3 HPD HR1
 go_wp2_with (rw [HW3.out])
 go_loopw [6, 7, 32] (fun v6 v7 iv wr => RkAt p l w2 v6 v7 iv wr) (fun _ _ iv _ => l.length - (intOf iv).toNat)
 case atStart => exact ⟨0, 0, 0, [], Nat.zero_le _, rfl, rfl, by simpa using HX6.out, rfl, HO3.out⟩
 case round =>
  clear HO3 HW3 HX6
  obtain ⟨k, A, n, xs, hk, hA, rfl, ⟨o6, c6, rfl, hv6⟩, hn, hout⟩ := hrel
  have HO := Lh hout
  have HAA := Lh hA
  have HNN := Lh hn
  have hbw := hout.below
  have h6l : (p.drop (8 * A)).length = 8 * m - 8 * A := by rw [List.length_drop, HPL.out]
  rw [h6l]
  have h61 := hv6.le
  have h62 := hv6.cap
  rw [bytesV_length, h6l] at h61
  unfold maxLen at h62
  obtain ⟨n6, hn6⟩ : ∃ n6, 8 * m - 8 * A = n6 := ⟨_, rfl⟩
  rw [hn6] at h61 ⊢
  by_cases hlt : k < l.length
  ·obtain ⟨b1, off1, rfl, _, hcl⟩ := natI_cell (HR2.out.later hbw) k hlt
   change wr.cell? _ = some (.int .i64 ((szG l k : Nat) : Int)) at hcl
   have hst := sumN_take_succ l k hlt
   change _ = _ + szG l k at hst
   have hsl := sumN_take_le l (k + 1)
   rw [HSS.out] at hsl
   have hmk := HMM.out _ (szG_mem l k hlt)
   have hgl : (grps p 0 (l.take k)).length = sumN (l.take k) + 32 * k := by
    rw [grps_length, List.length_take]; congr 1; omega
   have hgn : grps p 0 (l.take (k + 1)) = grps p 0 (l.take k) ++ grpB p (sumN (l.take k)) (szG l k) := by
    have e : l.take (k + 1) = l.take k ++ [szG l k] := by
     rw [List.take_add_one, List.getElem?_eq_getElem hlt]
     simp [szG, List.getD_eq_getElem?_getD, List.getElem?_eq_getElem hlt]
    rw [e, grps_snoc, Nat.zero_add]
   obtain ⟨s, hs⟩ : ∃ s, szG l k = s := ⟨_, rfl⟩
   obtain ⟨G, hG⟩ : ∃ G, grps p 0 (l.take k) = G := ⟨_, rfl⟩
   rw [<- hA] at hst hgl hgn
   rw [hs] at hcl hst hmk hgn
   rw [hG] at hgl hgn hout hn
   have HO := Lh hout
   have hs1 := hmk.1
   have hs2 := hmk.2
   have hAs : A + s <= m := by omega
   have hn1 : n = A + 32 * k := by omega
   have hn7 : n <= 600 := by omega
   have hk0 : (0 : Int) <= (k : Int) := by omega
   have hk1 : (k : Int) < (l.length : Int) := by omega
   have HGN := Lh hgn
   have HST := Lh hst
   have HGL : Hid (n = G.length) := Lh hn
   have hs8 : 8 * s <= n6 := by omega
   obtain ⟨b6, off6, rfl, hb6, _⟩ := hv6.cells (by rw [bytesV_length, h6l]; omega)
   have HV6 := Lh hv6
   have H6L := Lh h6l
   have HN6 := Lh hn6
   clear hout hbw hst hsl hmk hgl hgn hs hG hA hn hv6 h6l hn6 hn1
   go_wp2_with fail
   go_loopw [7, 10] (fun v7 jv wr2 => R2At G p A s w2 v7 jv wr2) (fun _ jv _ => s - (intOf jv).toNat)
   case atStart => exact ⟨0, n, xs, Nat.zero_le _, rfl, HGL.out, by simpa [dat] using HO.out⟩
   case round =>
    rename World => W2
    obtain ⟨j, n2, ys, hj, rfl, hn2, hout⟩ := hrel
    have HO2 := Lh hout
    have HN2 := Lh hn2
    by_cases hjl : j < s
    ·have hj0 : (0 : Int) <= (j : Int) := by omega
     have hj8 : 8 * j + 8 <= n6 := by omega
     have hrow := ((HV6.out.later hout.below).part (8 * j) 8 (by rw [bytesV_length, H6L.out, HN6.out]; omega) (c6 - 8 * j) (by omega) (by unfold maxLen; omega))
     rw [blk_part _ _ (by rw [H6L.out, HN6.out]; omega), blk_drop] at hrow
     obtain ⟨w5, hw5⟩ : ∃ w5, W2.alloc (.cells #[] 5) = w5 := ⟨_, rfl⟩
     have HO5 : Hid (w5.ownsRow W2.heap.size 5 1 (.slice (some ⟨W2.heap.size, 0, none⟩) 0 0) 0 (bytesV [])) := Lh (by rw [<- hw5]; exact World.ownsRow_lit W2 #[] 0 (Nat.le_refl _) (Nat.zero_le _) rfl)
     have hb5 : Below W2.heap.size W2 w5 := by rw [<- hw5]; exact below_new _ _
     have HB5 := Lh hb5
     have HRW := Lh (hrow.later hb5)
     have HW5 := Lh hw5
     obtain ⟨a, ha⟩ : ∃ a, 8 * j = a := ⟨_, rfl⟩
     have hai : 8 * (j : Int) = (a : Int) := by omega
     have hac : ¬ c6 = a := by omega
     have hac2 : (a : Int) + 8 <= (c6 : Int) := by omega
     have hac3 : (a : Int) + 8 <= (n6 : Int) := by omega
     rw [ha] at HRW
     clear hout hn2 hrow hw5 hb5 ha
     go_wp2_with (first | rw [HW5.out] | (at_builtin; refine append_row rfl (.tmp 42) (.tmp 49) rfl W2.heap.size _ 0 [] rfl HO5.out _ (a + 8 - a) _ (blk p (A + j)) rfl (by rw [blk_length]; omega) HRW.out (by omega) HB5.out.size ?_))
     intro v50 w6 hv hg
     have hb6w := own_below (n := 0) HB5.out HO5.out hg
     obtain ⟨g, cap, rfl, hgg, hbuf⟩ := own_buf hv (by omega) (by rw [blk_length])
     rw [blk_length] at ⊢
     obtain ⟨w7, hw7⟩ : ∃ w7, w6.alloc (.cells #[.slice (some ⟨g, 0, none⟩) 8 cap] 22) = w7 := ⟨_, rfl⟩
     have hb7 : Below w6.heap.size w6 w7 := by rw [<- hw7]; exact below_new _ _
     have HO7 := Lh ((HO2.out.later hb6w).later hb7)
     have HBF7 := Lh (hbuf.later hb7)
     have HH7 : Hid (RowIs w7 (some ⟨w6.heap.size, 0, none⟩) [.slice (some ⟨g, 0, none⟩) 8 cap] 1) := Lh (by rw [<- hw7]; exact hdr_row w6 _)
     have HW7 := Lh hw7
     have hn9 : n2 <= 900 := by have := HN2.out; have := HGL.out; omega
     clear hv hg hb6w hgg hbuf hw7 hb7
     go_wp2_with (first | rw [HW7.out] | (at_builtin; refine append_rowsH rfl (.tmp 41) (.tmp 51) rfl w2.heap.size _ n2 ys rfl HO7.out.own _ 1 1 [.slice (some ⟨g, 0, none⟩) 8 cap] rfl rfl HH7.out (fun u hu => by rw [List.mem_singleton] at hu; subst hu; rfl) (by omega) HO7.out.below.size ?_))
     intro v52 w8 hv hg
     have HO8 : Hid (OutI w2 (G ++ dat p A (j + 1)) v52 (n2 + 1) (ys ++ [.slice (some ⟨g, 0, none⟩) 8 cap]) w8) := Lh (by
      have := HO7.out.add HBF7.out (blk_length _ _) hv hg
      rwa [List.append_assoc, <- dat_succ] at this)
     clear hv hg
     go_wp2_with fail
     go_roundw
     case rel => exact ⟨j + 1, n2 + 1, _, by omega, by go_num, by have := HN2.out; omega, HO8.out⟩
     case measure => simp [intOf]; omega
    ·obtain rfl : j = s := by omega
     have hnz : n2 <= 900 := by have := HN2.out; have := HGL.out; omega
     clear hout hn2
     have HGZ : Hid ((W2.alloc (.cells Z 155)).heap[W2.heap.size]? = some (.cells Z 155 (0, 0))) := Lh (World.alloc_heap_new _ _)
     go_wp2_with (first | refine build_syn rfl 155 rfl Z HBU.out ?_ | refine wpList_store_row rfl 155 (.tmp 11) (.tmp 53) rfl W2.heap.size Z rfl rfl 155 Z HGZ.out HSZ.out rfl HST1.out ?_)
     obtain ⟨w9, hw9⟩ : ∃ w9, (W2.alloc (.cells Z 155)).setRow W2.heap.size Z = w9 := ⟨_, rfl⟩
     rw [hw9]
     obtain ⟨R, hRq⟩ : ∃ R, W2.heap.size = R := ⟨_, rfl⟩
     have HA9 : Hid (ArrB w9 R (fun _ => .slice none 0 0)) := Lh (by
      rw [<- hw9, <- hRq]
      have := setRow_heap _ _ _ Z _ _ HGZ.out
      rw [<- HZ.out] at this ⊢
      exact this)
     have HB9 : Hid (Below W2.heap.size W2 w9) := Lh (by rw [<- hw9]; exact (below_new _ _).trans (below_setRow (Nat.le_refl _)))
     rw [hRq]
     have HRQ := Lh hRq
     obtain ⟨D, hD⟩ : ∃ D, dat p A j = D := ⟨_, rfl⟩
     have HD := Lh hD
     clear hw9 hRq hD HGZ
     go_loopw [12] (fun iv wr3 => R3At D R W2 iv wr3) (fun iv _ => 8 - (intOf iv).toNat)
     case atStart => exact ⟨0, _, Nat.zero_le _, rfl, HA9.out, fun i hi => absurd hi (by omega), HB9.out⟩
     case round =>
      rename World => W3
      clear HA9 HB9
      obtain ⟨t, F, ht, rfl, harr, hrk, hb3⟩ := hrel
      have HARR := Lh harr
      have HRK := Lh hrk
      have HB3 := Lh hb3
      by_cases ht8 : t < 8
      ·have ht0 : (0 : Int) <= (t : Int) := by omega
       have ht1 : (t : Int) < 8 := by omega
       obtain ⟨w10, hw10⟩ : ∃ w10, W3.alloc (.cells #[] 5) = w10 := ⟨_, rfl⟩
       have HO10 : Hid (w10.ownsRow W3.heap.size 5 1 (.slice (some ⟨W3.heap.size, 0, none⟩) 0 0) 0 (bytesV (clm p A t 0))) := Lh (by rw [<- hw10]; exact World.ownsRow_lit W3 #[] 0 (Nat.le_refl _) (Nat.zero_le _) rfl)
       have HB10 : Hid (Below W3.heap.size W3 w10) := Lh (by rw [<- hw10]; exact below_new _ _)
       have HW10 := Lh hw10
       clear harr hrk hb3 hw10
       go_wp2_with (rw [HW10.out])
       go_loopw [13, 14] (fun v iv wr4 => R4At p A t j W3 v iv wr4) (fun _ iv _ => j - (intOf iv).toNat)
       case atStart => exact ⟨0, Nat.zero_le _, rfl, HO10.out, HB10.out⟩
       case round =>
        rename World => W4
        clear HO10 HB10
        obtain ⟨i, hi, rfl, hv, hb4⟩ := hrel
        have HV := Lh hv
        have HB4 := Lh hb4
        by_cases hij : i < j
        ·obtain ⟨e, he⟩ : ∃ e, 8 * i + t = e := ⟨_, rfl⟩
         obtain ⟨_, _, e2, _, hcell⟩ := (HV6.out.later (Ks (Ks HO2.out.below HB3.out) HB4.out)).cells (by rw [bytesV_length, H6L.out, HN6.out]; omega)
         cases e2
         have hc1 := hcell e _ (bytesV_get _ e (by rw [H6L.out, HN6.out]; omega))
         have hce : (p.drop (8 * A)).getD e 0 = co p (8 * (A + i) + t) := by
          have := co_dropB p (8 * A) e
          unfold co at this ⊢
          rw [this]
          congr 1; omega
         rw [hce] at hc1
         have hcs := clm_succ p A t i
         generalize co p (8 * (A + i) + t) = y at *
         have hyl := UInt8.toNat_lt y
         obtain ⟨w11, hw11⟩ : ∃ w11, W4.alloc (.cells #[.int .u8 (y.toNat : Int)] 5) = w11 := ⟨_, rfl⟩
         have HO11 : Hid (w11.ownsRow W3.heap.size 5 1 _ i (bytesV (clm p A t i))) := Lh (by rw [<- hw11]; exact World.ownsRow.alloc hv _)
         have HZ11 : Hid (RowIs w11 (some ⟨W4.heap.size, 0, none⟩) (bytesV [y]) 1) := Lh (by rw [<- hw11]; exact byte_row W4 y)
         have HB11 : Hid (Below W3.heap.size W3 w11) := Lh (by rw [<- hw11]; exact hb4.alloc hb4.size _)
         have HW11 := Lh hw11
         have HCS := Lh hcs
         have hei : 8 * (i : Int) + (t : Int) = (e : Int) := by omega
         have hen : (e : Int) < (n6 : Int) := by omega
         have he0 : (0 : Int) <= (e : Int) := by omega
         have hi0 : (0 : Int) <= (i : Int) := by omega
         clear hv hb4 hw11 hcell he hce hcs
         go_wp2_with (first | rw [HW11.out] | (at_builtin; refine append_row rfl (.tmp 64) (.tmp 72) rfl W3.heap.size _ i (clm p A t i) rfl HO11.out _ 1 1 [y] rfl rfl HZ11.out (by omega) HB11.out.size ?_))
         intro v' w12 hv hg
         have HV12 : Hid (w12.ownsRow W3.heap.size 5 1 v' (i + 1) (bytesV (clm p A t (i + 1)))) := Lh (by rw [<- HCS.out]; exact hv)
         have HB12 := Lh (own_below (n := 0) HB11.out HO11.out hg)
         clear hv hg
         go_wp2_with fail
         go_roundw
         case rel => exact ⟨i + 1, by omega, by go_num, HV12.out, HB12.out⟩
         case measure => simp [intOf]; omega
        ·obtain rfl : i = j := by omega
         have hcl : (clm p A t i).length = i := by simp [clm]
         obtain ⟨oc, cc, rfl, hrow⟩ := owns_rv hv hcl.symm
         have hpar := rpar_kind (clm p A t i) oc cc W4 hrow (by rw [hcl]; exact hs1) (by rw [hcl]; exact hs2)
         rw [hcl] at hpar ⊢
         have hrc1 := hrow.le
         have hrc2 := hrow.cap
         rw [bytesV_length, hcl] at hrc1
         unfold maxLen at hrc2
         have HPA := Lh hpar
         have HFL : Hid (clm p A t i = colB D t) := Lh (by rw [<- HD.out]; exact clm_full p A t i ht8)
         clear hv hb4 hpar hrow hcl
         go_wp2_with fail
         refine HPA.out.mono ?_; rintro e w13 ⟨r, x, hr, hc, rfl, hx, hb, g, off, q, cur, rfl, hcur⟩
         obtain rfl := parL_only hc hr (by simp [clm]; exact hs2)
         rw [HFL.out] at hx
         have HK13 : Hid (RowK (parL (colB D t)) (.slice (some ⟨g, off, none⟩) 32 q) w13) := Lh ⟨hx, g, off, 32, q, cur, rfl, hcur⟩
         have hb13 := Ks HB4.out hb
         have harr := HARR.out.later hb13
         have hc0 := harr.cell t ht8
         have hf0 := harr.frozen t
         have hst := harr.store t (.slice (some ⟨g, off, none⟩) 32 q)
         have HA13 := Lh hst.1
         have hkk : ∀ k, some R = some k -> ∃ cur T f, w13.heap[k]? = some (.cells cur T f) /\ T ≠ 5 := fun k e => by
          cases e
          exact ⟨_, _, _, harr, by decide⟩
         have HR13 : Hid (∀ i', i' < t + 1 -> RowK (parL (colB D i')) (if i' = t then .slice (some ⟨g, off, none⟩) 32 q else F i') (w13.setCell ⟨R, t, none⟩ (.slice (some ⟨g, off, none⟩) 32 q))) := Lh fun i' hi' => by
          by_cases e : i' = t
          ·subst e
           rw [if_pos rfl]
           exact HK13.out.grown hst.2 hkk
          ·rw [if_neg e]
           exact ((HRK.out i' (by omega)).later hb13).grown hst.2 hkk
         have HB13 : Hid (Below W2.heap.size W2 (w13.setCell ⟨R, t, none⟩ (.slice (some ⟨g, off, none⟩) 32 q))) := Lh ((Ks HB3.out hb13).trans (Only.below hst.2 (by rw [HRQ.out]; exact Nat.le_refl _) (Ks HB3.out hb13).size))
         clear hr hc hx hb hcur hb13 harr hst hkk HPA
         go_wp2_with fail
         go_roundw
         case rel => exact ⟨t + 1, _, by omega, by go_num, HA13.out, HR13.out, HB13.out⟩
         case measure => simp [intOf]; omega
      ·obtain rfl : t = 8 := by omega
       rw [show (((8 : Nat) : Int)) = 8 from rfl]
       have HO3' : Hid (OutI w2 (G ++ D ++ (parB D).take 0) _ n2 ys W3) := Lh (by
        rw [List.take_zero, List.append_nil, <- HD.out]
        exact HO2.out.later hb3)
       clear harr hrk hb3
       go_wp2_with fail
       go_loopw [7, 15] (fun v7 iv wr5 => R5At D (G ++ D) R n2 F w2 v7 iv wr5) (fun _ iv _ => 32 - (intOf iv).toNat)
       case atStart => exact ⟨0, n2, ys, Nat.zero_le _, rfl, rfl, HO3'.out, HARR.out, HRK.out⟩
       case round =>
        rename World => W5
        obtain ⟨i, n3, zs, hi, rfl, hn3, hout, harr, hrk⟩ := hrel
        have HO5 := Lh hout
        have HA5 := Lh harr
        have HR5 := Lh hrk
        have HN3 := Lh hn3
        by_cases hi32 : i < 32
        ·have hi0 : (0 : Int) <= (i : Int) := by omega
         have hi1 : (i : Int) < 32 := by omega
         obtain ⟨w14, hw14⟩ : ∃ w14, W5.alloc (.cells #[] 5) = w14 := ⟨_, rfl⟩
         have HO14 : Hid (w14.ownsRow W5.heap.size 5 1 (.slice (some ⟨W5.heap.size, 0, none⟩) 0 0) 0 (bytesV (pbk D i 0))) := Lh (by rw [<- hw14]; exact World.ownsRow_lit W5 #[] 0 (Nat.le_refl _) (Nat.zero_le _) rfl)
         have HB14 : Hid (Below W5.heap.size W5 w14) := Lh (by rw [<- hw14]; exact below_new _ _)
         have HW14 := Lh hw14
         clear hout harr hrk hn3 hw14
         go_wp2_with (rw [HW14.out])
         go_loopw [16, 17] (fun v tv wr6 => R6At D i W5 v tv wr6) (fun _ tv _ => 8 - (intOf tv).toNat)
         case atStart => exact ⟨0, Nat.zero_le _, rfl, HO14.out, HB14.out⟩
         case round =>
          rename World => W6
          clear HO14 HB14
          obtain ⟨t, ht, rfl, hv, hb6⟩ := hrel
          have HV := Lh hv
          have HB6 := Lh hb6
          by_cases ht8 : t < 8
          ·have ht0 : (0 : Int) <= (t : Int) := by omega
           have ht1 : (t : Int) < 8 := by omega
           have hcF := (HA5.out.later hb6).cell t ht8
           obtain ⟨⟨oF, cF, hFe, hFr⟩, _⟩ := (HR5.out t ht8).later hb6
           rw [parL_length] at hFe
           rw [hFe] at hcF
           obtain ⟨bF, fF, rfl, _, hcell⟩ := hFr.cells (by simp)
           have hc1 := hcell i _ (bytesV_get _ i (by simpa using hi32))
           have hcc := hFr.le
           have hcm := hFr.cap
           simp at hcc
           unfold maxLen at hcm
           have hps := pbk_succ D i t
           have hyy : (parL (colB D t)).getD i 0 = co (parL (colB D t)) i := rfl
           rw [hyy] at hc1
           generalize co (parL (colB D t)) i = y at *
           have hyl := UInt8.toNat_lt y
           obtain ⟨w15, hw15⟩ : ∃ w15, W6.alloc (.cells #[.int .u8 (y.toNat : Int)] 5) = w15 := ⟨_, rfl⟩
           have HO15 : Hid (w15.ownsRow W5.heap.size 5 1 _ t (bytesV (pbk D i t))) := Lh (by rw [<- hw15]; exact World.ownsRow.alloc hv _)
           have HZ15 : Hid (RowIs w15 (some ⟨W6.heap.size, 0, none⟩) (bytesV [y]) 1) := Lh (by rw [<- hw15]; exact byte_row W6 y)
           have HB15 : Hid (Below W5.heap.size W5 w15) := Lh (by rw [<- hw15]; exact hb6.alloc hb6.size _)
           have HW15 := Lh hw15
           have HPS := Lh hps
           clear hv hb6 hw15 hcell hps hFe hFr hyy
           go_wp2_with (first | rw [HW15.out] | (at_builtin; refine append_row rfl (.tmp 90) (.tmp 97) rfl W5.heap.size _ t (pbk D i t) rfl HO15.out _ 1 1 [y] rfl rfl HZ15.out (by omega) HB15.out.size ?_))
           intro v' w16 hv hg
           have HV16 : Hid (w16.ownsRow W5.heap.size 5 1 v' (t + 1) (bytesV (pbk D i (t + 1)))) := Lh (by rw [<- HPS.out]; exact hv)
           have HB16 := Lh (own_below (n := 0) HB15.out HO15.out hg)
           clear hv hg
           go_wp2_with fail
           go_roundw
           case rel => exact ⟨t + 1, by omega, by go_num, HV16.out, HB16.out⟩
           case measure => simp [intOf]; omega
          ·obtain rfl : t = 8 := by omega
           have hpl8 : (pbk D i 8).length = 8 := by simp [pbk]
           obtain ⟨g, cap, rfl, _, hbuf⟩ := own_buf hv (by omega) hpl8.symm
           rw [hpl8]
           obtain ⟨w17, hw17⟩ : ∃ w17, W6.alloc (.cells #[.slice (some ⟨g, 0, none⟩) 8 cap] 22) = w17 := ⟨_, rfl⟩
           have hb17 : Below W6.heap.size W6 w17 := by rw [<- hw17]; exact below_new _ _
           have HO17 := Lh ((HO5.out.later hb6).later hb17)
           have HBF17 := Lh (hbuf.later hb17)
           have HH17 : Hid (RowIs w17 (some ⟨W6.heap.size, 0, none⟩) [.slice (some ⟨g, 0, none⟩) 8 cap] 1) := Lh (by rw [<- hw17]; exact hdr_row W6 _)
           have HA17 := Lh ((HA5.out.later hb6).later hb17)
           have HR17 : Hid (∀ t, t < 8 -> RowK (parL (colB D t)) (F t) w17) := Lh fun t ht => ((HR5.out t ht).later hb6).later hb17
           have HW17 := Lh hw17
           have HP8 := Lh hpl8
           have hn9 : n3 <= 1000 := by have := HN3.out; omega
           clear hv hb6 hbuf hw17 hb17 hpl8
           go_wp2_with (first | rw [HW17.out] | (at_builtin; refine append_rowsH rfl (.tmp 99) (.tmp 101) rfl w2.heap.size _ n3 zs rfl HO17.out.own _ 1 1 [.slice (some ⟨g, 0, none⟩) 8 cap] rfl rfl HH17.out (fun u hu => by rw [List.mem_singleton] at hu; subst hu; rfl) (by omega) HO17.out.below.size ?_))
           intro v102 w18 hv hg
           have HO18 : Hid (OutI w2 (G ++ D ++ (parB D).take (i + 1)) v102 (n3 + 1) (zs ++ [.slice (some ⟨g, 0, none⟩) 8 cap]) w18) := Lh (by
            have := HO17.out.add HBF17.out HP8.out hv hg
            rwa [List.append_assoc, parB_take D i hi32] at this)
           have HA18 := Lh (HA17.out.grown hg (HA17.out.ne_own HO17.out.own))
           have HR18 : Hid (∀ t, t < 8 -> RowK (parL (colB D t)) (F t) w18) := Lh fun t ht => (HR17.out t ht).grown hg fun k e => (own_kind HO17.out.own (by decide) k e).2
           clear hv hg
           go_wp2_with fail
           go_roundw
           case rel => exact ⟨i + 1, n3 + 1, _, by omega, by go_num, by have := HN3.out; omega, HO18.out, HA18.out, HR18.out⟩
           case measure => simp [intOf]; omega
        ·obtain rfl : i = 32 := by omega
         have htk : (parB D).take 32 = parB D := List.take_of_length_le (by simp)
         have HOE : Hid (OutI w2 (grps p 0 (l.take (k + 1))) _ n3 zs W5) := Lh (by
          have := hout
          rw [htk] at this
          rw [HGN.out]
          unfold grpB
          rw [HD.out, <- List.append_assoc]
          exact this)
         have HNE : Hid (n3 = (grps p 0 (l.take (k + 1))).length) := Lh (by
          rw [HGN.out, List.length_append, grpB_length]
          have h1 := HN3.out
          have h2 := HN2.out
          have h3 := HGL.out
          omega)
         obtain ⟨a, ha⟩ : ∃ a, 8 * j = a := ⟨_, rfl⟩
         have hai : 8 * (j : Int) = (a : Int) := by omega
         have HD6 := Lh (HV6.out.dropB a (by rw [H6L.out, HN6.out]; omega))
         have hdd : (p.drop (8 * A)).drop a = p.drop (8 * (A + j)) := by
          rw [List.drop_drop]; congr 1; omega
         rw [hdd] at HD6
         have HLD : Hid ((p.drop (8 * (A + j))).length = n6 - a) := Lh (by
          rw [List.length_drop, HPL.out]
          have := HN6.out
          omega)
         have han : a <= n6 := by omega
         have hani : (a : Int) <= (n6 : Int) := by omega
         have haci : (a : Int) <= (c6 : Int) := by omega
         have HA8 := Lh ha
         clear hout harr hrk hn3 hdd htk ha
         by_cases hca : c6 = a
         ·have hna : n6 = a := by omega
          subst hna
          subst hca
          have HE : Hid (p.drop (8 * (A + j)) = []) := Lh (List.eq_nil_of_length_eq_zero (by rw [HLD.out]; omega))
          go_wp2_with fail
          go_roundw
          case rel => exact ⟨k + 1, A + j, n3, zs, by omega, HST.out.symm, by go_num, by rw [HE.out]; exact ⟨_, 0, rfl, RowIs.empty _ 0 (Nat.zero_le _) (fun e => by cases e)⟩, HNE.out, HOE.out⟩
          case measure => simp [intOf]; omega
         ·go_wp2_with fail
          go_roundw
          case rel => exact ⟨k + 1, A + j, n3, zs, by omega, HST.out.symm, by go_num, ⟨_, _, by rw [HLD.out], HD6.out⟩, HNE.out, HOE.out⟩
          case measure => simp [intOf]; omega
  ·obtain rfl : k = l.length := by omega
   have HRB : Hid (RbV (allB f) _ wr) := Lh (by
    have h1 := owns_rb hout.own (by rw [hn]) hout.els.els
    rw [HALL.out]
    rw [List.take_length] at h1
    exact h1)
   have HBE := Lh (HB2.out.trans (hbw.mono HB2.out.size))
   clear hout hbw hA hn hv6 h6l hn6
   go_wp2_with fail
   go_ret2
   exact ⟨_, rfl, HRB.out, HBE.out⟩
end Go.Proofs.YtffheegeaghfjaaGreatDoor

namespace Go.Proofs.YtffheegeaghfjaaGreatDoor
open Go.RowKit
section
variable {P : Program} {md : Region.Mode} {ops : Array Oper} {Q : Exit -> Act -> World -> Prop} {S : World -> Prop} {fuel : Nat} {listed : Array Bool} {a : Act} {w : World}
end
def Rq16 (MK : List UInt8) (N : Int) (F : List UInt8) (p : Pm15) (go n : Nat) (wb : World) (v19 : Value) (wr : World) : Prop :=
 ∃ (k : Nat) (xs : List Value), k <= n /\ v19 = .int .i64 (k : Int) /\ Arr wr go 22 xs /\ Els wr (Da.st16 MK N F p k) xs /\ Below wb.heap.size wb wr
theorem Da.tot15_ge16 (n : Int) : 32 <= Da.tot15 n := by
 unfold Da.tot15 totN shpN
 split <;> simp only [List.length_cons, List.length_nil] <;> omega
theorem rseal16_of (Z : Array Value) (hZ : Z = nil5.toArray) (hzs : ∀ w, Sem.run Tryz.prog (zeroValue 47) w = .ok (.agg Z) w)
    (MK F : List UInt8) (ok oF : Option Addr) (ck cF : Nat) (N : Int) (p : Pm15) (hok : p.ok) (w : World) (hK : RowIs w ok (bytesV MK) ck) (hF : RowIs w oF (bytesV F) cF) (hV : Rds w) (hkl : MK.length <= 100) (hfl : F.length <= 400) :
    Calls Tryz.prog 11 #[.slice ok MK.length ck, .int .i64 N, .slice oF F.length cF, .agg (pmA p)] w fun e w' => ∃ x, e = .returned (.tuple #[x, .int .i64 ((Da.sbad16 MK N F p : Nat) : Int)]) /\ RbV (if Da.sbad16 MK N F p = 0 then Da.all16 MK N F p else []) x w' /\ Below w.heap.size w w' := by
 obtain ⟨i1, hi1, hy0, hy1, hy2⟩ := info_parts info_rowB
 obtain ⟨g, hg⟩ : ∃ g, w.heap.size = g := ⟨_, rfl⟩
 obtain ⟨PA, hPA⟩ : ∃ PA, pmA p = PA := ⟨_, rfl⟩
 obtain ⟨W1, hW1⟩ : ∃ W1, w.alloc (.cells PA 41) = W1 := ⟨_, rfl⟩
 have hA1 : Arr W1 g 41 (pmL p) := by rw [<- hW1, <- hg, <- hPA]; exact World.alloc_heap_new w _
 have hb1 : Below w.heap.size w W1 := by rw [<- hW1]; exact new12 _ _
 have hck := rchk15_any p hok W1
 rw [hPA] at hck
 obtain ⟨E, hE⟩ : ∃ E : Nat, Da.err15 (Da.bad15 p) = E := ⟨_, rfl⟩
 rw [hE] at hck
 have HE0 : Hid (E = 0 ↔ Da.bad15 p = 0) := Lh (by rw [<- hE]; exact Da.err15_zero (Da.bad15_le p))
 have HEE := Lh hE
 have HCK := Lh hck
 have HPI : Hid ((Tryz.prog.info? 41).map (·.size) = some PA.size) := Lh (by rw [<- hPA]; exact pm15_info)
 have HP1 : Hid (W1.heap[g]? = some (.cells PA 41 (0, 0))) := Lh (by rw [<- hPA]; exact hA1)
 have HA1 := Lh hA1
 have HB1 := Lh hb1
 have HW1 := Lh hW1
 have HG := Lh hg
 have HKR := Lh hK
 have HFR := Lh hF
 have HV := Lh hV
 have HZ := Lh hZ
 have HKL := Lh hkl
 have HFL := Lh hfl
 obtain ⟨SB, hSB⟩ : ∃ SB : Nat, Da.sbad16 MK N F p = SB := ⟨_, rfl⟩
 rw [hSB, hPA]
 have HSB := Lh hSB
 clear hg hPA hW1 hA1 hb1 hck hE hK hF hV hkl hfl hok hSB hZ
 go_enter Tryz.func11, Tryz.ntmps11
 go_upto_region 1 with fail
 rw [HW1.out, HG.out]
 apply wp_region_lit
 refine wpList_load_row rfl 41 (.tmp 7) rfl g rfl 41 PA (0, 0) _ HP1.out Tryz.underlying41 rfl HPI.out ?_
 (refine wpList_plain rfl (fun K hK => ?_); go_simp)
 refine HCK.out.mono ?_
 rintro e W2 ⟨rfl, hb2⟩
 refine hK _ _ ?_
 clear hK K HCK
 have HA2 := Lh (HA1.out.later hb2 HA1.out.lt)
 have HB2 := Lh (Ks HB1.out hb2)
 clear hb2
 unfold txt15
 iterate 7 (refine wpList_plain rfl (fun K hK => ?_); go_simp; refine hK _ _ ?_; clear hK K)
 by_cases h0 : Da.bad15 p = 0
 ·have e0 : E = 0 := HE0.out.2 h0
  subst e0
  have hr0 := Da.right15 h0
  have hcs : W2.cell? ⟨g, 0, none⟩ = some (.int .i64 p.sz) := by rw [HA2.out.cell]; rfl
  by_cases hsz : (F.length : Int) = p.sz
  ·obtain ⟨hsb, hal⟩ := Da.sbad16_good (K := MK) (N := N) h0 hsz
   have hAB : Da.abad (Da.isMas MK.length) (Da.inR N) = SB := by rw [<- hsb, HSB.out]
   have hq1 : ((F.length : Int) != p.sz) = false := by rw [hsz]; simp
   have hq2 : ((F.length : Int) == p.sz) = true := by rw [hsz]; simp
   have hall := rall9_any MK ok ck N W2 (HKR.out.later HB2.out) (HV.out.later HB2.out) (by have := HKL.out; omega)
   rw [hAB] at hall
   have HALL := Lh hall
   have HR0 := Lh hr0
   have HSZ := Lh hsz
   have HAL := Lh hal
   clear hall hsb hAB hr0 hal h0
   go_upto_region 6 with fail
   apply wp_region_lit
   iterate 2 (refine wpList_plain rfl (fun K hK => ?_); go_simp; refine hK _ _ ?_; clear hK K)
   (refine wpList_plain rfl (fun K hK => ?_); go_simp)
   refine HALL.out.mono ?_
   rintro e W3 ⟨xs, rfl, hx, hb3⟩
   refine hK _ _ ?_
   clear hK K HALL hcs
   obtain ⟨XA, hXA⟩ : ∃ XA : Array Value, xs.toArray = XA := ⟨_, rfl⟩
   have hxl : xs.length = 5 := by
    rw [hx.len]
    unfold Da.ares
    split <;> rfl
   have HXI : Hid ((Tryz.prog.info? 47).map (·.size) = some XA.size) := Lh (by rw [k5_info, <- hXA]; simp [hxl])
   have HFZ : Hid (Z.size = XA.size) := Lh (by rw [HZ.out, <- hXA]; simp [hxl]; rfl)
   have HFO : Hid (XA.all (·.oneCell') = true) := Lh (by rw [<- hXA]; exact all_oneCell_toArray hx.ones)
   obtain ⟨g8, hg8⟩ : ∃ g8, W3.heap.size = g8 := ⟨_, rfl⟩
   obtain ⟨W4, hW4⟩ : ∃ W4, W3.alloc (.cells Z 47) = W4 := ⟨_, rfl⟩
   have hz4 : W4.heap[g8]? = some (.cells Z 47 (0, 0)) := by rw [<- hW4, <- hg8]; exact World.alloc_heap_new W3 _
   obtain ⟨W5, hW5⟩ : ∃ W5, W4.setRow g8 XA = W5 := ⟨_, rfl⟩
   have hA5 : Arr W5 g8 47 xs := by rw [<- hW5]; unfold Arr; rw [hXA]; exact setRow_heap _ _ _ _ _ _ hz4
   have hb5 : Below W3.heap.size W3 W5 := by rw [<- hW5, <- hW4]; exact (new12 _ _).trans (below_row (Nat.le_of_eq hg8))
   have HA5 := Lh hA5
   have HE5 := Lh (hx.later hb5)
   have HPM5 := Lh ((HA2.out.later hb3 HA2.out.lt).later hb5 (HA2.out.later hb3 HA2.out.lt).lt)
   have HB5 := Lh (Ks (Ks HB2.out hb3) hb5)
   have HZ4 := Lh hz4
   have HW4 := Lh hW4
   have HW5 := Lh hW5
   have HG8 := Lh hg8
   rw [hXA]
   clear hx hb3 hXA hxl hg8 hW4 hz4 hW5 hA5 hb5
   iterate 4 (refine wpList_plain rfl (fun K hK => ?_); go_simp; refine hK _ _ ?_; clear hK K)
   rw [HW4.out, HG8.out]
   refine wpList_store_rowTo rfl 47 (.tmp 13) (.tmp 40) rfl rfl g8 XA rfl rfl 47 Z HZ4.out HXI.out HFZ.out HFO.out ?_
   rw [HW5.out]
   (refine wpList_plain rfl (fun K hK => ?_); go_simp; refine hK _ _ ?_; clear hK K)
   by_cases hs0 : SB = 0
   ·subst hs0
    have HE6 : Hid (Els W5 (Da.keysL MK N) xs) := Lh HE5.out
    have hbl := rblocks_any F oF cF W5 (HFR.out.later HB5.out) (by have := HFL.out; omega) zarr rfl
    have HBL := Lh hbl
    clear hbl
    go_upto_region 9 with fail
    apply wp_region_lit
    (refine wpList_plain rfl (fun K hK => ?_); go_simp; refine hK _ _ ?_; clear hK K)
    (refine wpList_plain rfl (fun K hK => ?_); go_simp)
    refine HBL.out.mono ?_
    rintro e W6 ⟨xb, rfl, hxb, hb6⟩
    refine hK _ _ ?_
    clear hK K HBL
    obtain ⟨ob, cb, rfl, hrb⟩ := hxb
    rw [HAL.out]
    have HRB := Lh hrb
    have HA6 := Lh (HA5.out.later hb6 HA5.out.lt)
    have HE7 := Lh (HE6.out.later hb6)
    have hpm := HPM5.out.later hb6 HPM5.out.lt
    have hcse : W6.cell? ⟨g, 1, none⟩ = some (.int .i64 p.se) := by rw [hpm.cell]; rfl
    have HB6 := Lh (Ks HB5.out hb6)
    obtain ⟨T, hT⟩ : ∃ T, Da.tot15 p.sz = T := ⟨_, rfl⟩
    obtain ⟨n, hn⟩ : ∃ n, Da.n16 p = n := ⟨_, rfl⟩
    have hn90 := Da.n16_le HR0.out (by have := HFL.out; have := HSZ.out; omega)
    have hnT := Da.n16_int HR0.out
    rw [hn] at hn90 hnT
    rw [hT] at hnT ⊢
    have hw1 : IntKind.i64.wrap ((T : Int) + p.se) = (n : Int) := by rw [hnT, IntKind.wrap_i64]; omega
    have HT := Lh hT
    have HN := Lh hn
    have HN90 := Lh hn90
    have HALT : Hid ((allB F).length = T) := Lh (by rw [HAL.out, hT])
    have hTn : T <= n := by have := HR0.out.e0; omega
    have HTN := Lh hTn
    clear hrb hb6 hpm hT hn hn90 hnT hTn
    iterate 5 (refine wpList_plain rfl (fun K hK => ?_); go_simp; refine hK _ _ ?_; clear hK K)
    go_upto_region 11 with fail
    apply wp_region_lit
    (refine wpList_plain rfl (fun K hK => ?_); go_simp; refine hK _ _ ?_; clear hK K)
    refine wpList_make_full _ rfl (.tmp 55) (.tmp 55) 30 rfl W6.heap.size 22 i1 (.slice none 0 0) 1 Tryz.underlying30 hi1 hy0 hy1 .i64 .i64 (n : Int) (n : Int) n rfl rfl rfl rfl (by rw [hy2]; have := HN90.out; omega) (by have := HN90.out; unfold maxLen; omega) (Nat.le_refl _) ?_
    intro W7 hown hgrow
    have hb7 : Below W6.heap.size W6 W7 := (Below.refl _ _).grown hgrow (Nat.le_refl _) (fun k h => by cases h)
    rw [made_rows] at hown
    have hA7 := (arr_of_own hown).1
    obtain ⟨go, hgo⟩ : ∃ go, W6.heap.size = go := ⟨_, rfl⟩
    rw [hgo] at hA7
    have HX0 : Hid (Rq16 MK N F p go n W6 (.int .i64 0) W7) := Lh ⟨0, _, Nat.zero_le _, rfl, hA7, by
     unfold Da.st16
     rw [Da.stp16_zero, HN.out]
     exact els_nils16 W7 n, hb7⟩
    have HGO := Lh hgo
    have HGOL : Hid (W6.heap.size <= go) := Lh (Nat.le_of_eq hgo)
    clear hown hgrow hb7 hA7 hcse hw1 hy0 hy1 hy2 hi1
    rw [hgo]
    clear hgo
    (refine wpList_plain rfl (fun K hK => ?_); go_simp; refine hK _ _ ?_; clear hK K)
    go_wp2_with fail
    obtain ⟨x0, hx0, o0, c0, rfl, hr0⟩ := HE7.out.key16 0 (by omega)
    obtain ⟨x1, hx1, o1, c1, rfl, hr1⟩ := HE7.out.key16 1 (by omega)
    obtain ⟨x2, hx2, o2, c2, rfl, hr2⟩ := HE7.out.key16 2 (by omega)
    obtain ⟨x3, hx3, o3, c3, rfl, hr3⟩ := HE7.out.key16 3 (by omega)
    have kl : ∀ j, j < 5 -> (Da.key16 MK N j).length = 32 := Da.key16_length MK N
    rw [kl 0 (by omega)] at hx0
    rw [kl 1 (by omega)] at hx1
    rw [kl 2 (by omega)] at hx2
    rw [kl 3 (by omega)] at hx3
    have HKY : Hid (∀ v, Below W6.heap.size W6 v -> v.cell? ⟨g8, 0, none⟩ = some (.slice o0 32 c0) /\ v.cell? ⟨g8, 1, none⟩ = some (.slice o1 32 c1) /\ v.cell? ⟨g8, 2, none⟩ = some (.slice o2 32 c2) /\ v.cell? ⟨g8, 3, none⟩ = some (.slice o3 32 c3)) := Lh fun v hv => by
     have h := HA6.out.later hv HA6.out.lt
     exact ⟨by rw [h.cell]; exact hx0, by rw [h.cell]; exact hx1, by rw [h.cell]; exact hx2, by rw [h.cell]; exact hx3⟩
    have HR0K := Lh hr0
    have HR1K := Lh hr1
    have HR2K := Lh hr2
    have HR3K := Lh hr3
    have HKLN := Lh kl
    obtain ⟨bb, offb, pp, qq, rfl, _, _, _⟩ := HRB.out.cell 0 (by rw [HALT.out]; have := HT.out; have := Da.tot15_ge16 p.sz; omega)
    have HBC : Hid (∀ k, k < T -> ∃ p1 q1, (∀ v, Below W6.heap.size W6 v -> v.cell? ⟨bb, offb + k, none⟩ = some (.slice p1 8 q1)) /\ RowIs W6 p1 (bytesV (bi (allB F) k)) q1) := Lh fun k hk => by
     obtain ⟨b', off', p1, q1, e, hlt, hc, hr⟩ := HRB.out.cell k (by rw [HALT.out]; exact hk)
     cases e
     rw [allB_eight16 F k (by rw [HALT.out]; exact hk)] at hc
     exact ⟨p1, q1, fun v hv => (hv.cell (p := ⟨bb, offb + k, none⟩) hlt).trans hc, by
      have h8 := allB_eight16 F k (by rw [HALT.out]; exact hk)
      exact hr⟩
    clear hx0 hx1 hx2 hx3 hr0 hr1 hr2 hr3 kl
    go_loopw [19] (fun v19 wr => Rq16 MK N F p go n W6 v19 wr) (fun iv _ => n - (intOf iv).toNat)
    case atStart => exact HX0.out
    case round =>
     obtain ⟨k, ys, hk, rfl, hA, hE, hB⟩ := hrel
     have HA := Lh hA
     have HEL := Lh hE
     have HBW := Lh hB
     clear hA hE hB
     by_cases hkn : k < n
     ·have dk : decide ((k : Int) < (n : Int)) = true := decide_eq_true (by omega)
      have dk2 : decide (k < n) = true := decide_eq_true hkn
      as_aux_lemma =>
       obtain ⟨X1, hX1⟩ : ∃ X1, wr.alloc (.cells #[] 5) = X1 := ⟨_, rfl⟩
       have hbx : Below wr.heap.size wr X1 := by rw [<- hX1]; exact new12 _ _
       have HW1' := Lh hbx
       have HYX := Lh (Ks HBW.out hbx)
       have HX1W := Lh hX1
       clear hX1 hbx
       go_upto_region 16 with fail
       rw [HX1W.out]
       by_cases hkT : k < T
       ·have dT : decide ((k : Int) < (T : Int)) = true := decide_eq_true (by omega)
        have dT2 : decide (k < T) = true := decide_eq_true hkT
        obtain ⟨p1, q1, hbk, hr1⟩ := HBC.out k hkT
        have HBK := Lh hbk
        have hbc : 0 <= (k : Int) /\ (k : Int) < (T : Int) := by omega
        obtain ⟨CC, hC⟩ : ∃ CC : World -> Prop, (fun v => Below X1.heap.size X1 v) = CC := ⟨_, rfl⟩
        have HCm : Hid (∀ v, CC v -> Below W6.heap.size W6 v) := Lh fun v hv => by rw [<- hC] at hv; exact Ks HYX.out hv
        have HCn : Hid (∀ v, CC v -> Below X1.heap.size X1 v) := Lh fun v hv => by rw [<- hC] at hv; exact hv
        have HCi : Hid (∀ v, Below X1.heap.size X1 v -> CC v) := Lh fun v hv => by rw [<- hC]; exact hv
        have hCC : CC { X1 with drawn := X1.drawn + 1 } := HCi.out _ (Kit.dn' X1 1)
        have h8 := allB_eight16 F k (by rw [HALT.out]; exact hkT)
        have hmk : ∀ v, CC v -> Calls Tryz.prog 41 #[.slice o0 32 c0, .int .i64 (k : Int), .slice p1 8 q1] v fun e w' => ∃ x, e = .returned (.tuple #[x, .int .i64 0]) /\ RowV (Da.raw16 MK N F k) x w' /\ CC w' := fun v hv => by
         have h := rmask_any (Da.key16 MK N 0) o0 c0 (k : Int) (bi (allB F) k) p1 q1 v (HR0K.out.later (HCm.out v hv)) (hr1.later (HCm.out v hv)) (HV.out.later (Ks HB6.out (HCm.out v hv))) (by rw [HKLN.out 0 (by omega)]; omega)
         rw [Da.mb16 _ k h8 (by have := HN90.out; omega), h8, HKLN.out 0 (by omega)] at h
         refine h.mono ?_
         rintro e w' ⟨x, rfl, h1, _, h2⟩
         refine ⟨x, rfl, ?_, HCi.out _ (Ks (HCn.out v hv) h2)⟩
         unfold Da.raw16
         rw [if_pos (by rw [HALT.out]; exact hkT)]
         exact h1
        have HMK := Lh hmk
        clear hbk hr1 hC h8 hmk
        go_upto_region 17 with fail
        refine wp_region_held (S := CC) (by kernel_rfl) ?_
        refine takeH16 (i := 0) (x := .pointer (some ⟨g8, 0, none⟩)) rfl rfl (by kernel_rfl) (by kernel_rfl) (by kernel_rfl) (fun _ _ _ h => h) (Or.inl ⟨by kernel_rfl, fun w hw => by (go_simp <;> with_reducible rfl)⟩) hCC ?_
        simp only [List.setIfInBounds_toArray, List.set_cons_zero, List.set_cons_succ]
        refine takeH16 (i := 1) (x := .slice o0 32 c0) rfl rfl (by kernel_rfl) (by kernel_rfl) (by kernel_rfl) (fun _ _ _ h => h) (Or.inl ⟨by kernel_rfl, fun w hw => by have hc := (HKY.out w (HCm.out w hw)).1; (go_simp <;> with_reducible rfl)⟩) hCC ?_
        simp only [List.setIfInBounds_toArray, List.set_cons_zero, List.set_cons_succ]
        refine takeH16 (i := 2) (x := .int .i64 (k : Int)) rfl rfl (by kernel_rfl) (by kernel_rfl) (by kernel_rfl) (fun _ _ _ h => h) (Or.inl ⟨by kernel_rfl, fun w hw => by (go_simp <;> with_reducible rfl)⟩) hCC ?_
        simp only [List.setIfInBounds_toArray, List.set_cons_zero, List.set_cons_succ]
        refine takeH16 (i := 3) (x := .slice (some ⟨bb, offb, none⟩) T cb) rfl rfl (by kernel_rfl) (by kernel_rfl) (by kernel_rfl) (fun _ _ _ h => h) (Or.inl ⟨by kernel_rfl, fun w hw => by (go_simp <;> with_reducible rfl)⟩) hCC ?_
        simp only [List.setIfInBounds_toArray, List.set_cons_zero, List.set_cons_succ]
        refine takeH16 (i := 4) (x := .int .i64 (k : Int)) rfl rfl (by kernel_rfl) (by kernel_rfl) (by kernel_rfl) (fun _ _ _ h => h) (Or.inl ⟨by kernel_rfl, fun w hw => by (go_simp <;> with_reducible rfl)⟩) hCC ?_
        simp only [List.setIfInBounds_toArray, List.set_cons_zero, List.set_cons_succ]
        refine takeH16 (i := 5) (x := .pointer (some ⟨bb, offb + k, none⟩)) rfl rfl (by kernel_rfl) (by kernel_rfl) (by kernel_rfl) (fun _ _ _ h => h) (Or.inl ⟨by kernel_rfl, fun w hw => by (go_simp <;> with_reducible rfl)⟩) hCC ?_
        simp only [List.setIfInBounds_toArray, List.set_cons_zero, List.set_cons_succ]
        refine takeH16 (i := 6) (x := .slice p1 8 q1) rfl rfl (by kernel_rfl) (by kernel_rfl) (by kernel_rfl) (fun _ _ _ h => h) (Or.inl ⟨by kernel_rfl, fun w hw => by have hc := HBK.out w (HCm.out w hw); (go_simp <;> with_reducible rfl)⟩) hCC ?_
        simp only [List.setIfInBounds_toArray, List.set_cons_zero, List.set_cons_succ]
        refine readyH16 (i := 7) (by kernel_rfl) rfl (by kernel_rfl) (fun K hK => ?_)
        go_simp
        refine (HMK.out _ hCC).mono ?_
        rintro e Y1 ⟨xm, rfl, hxm, hCC⟩
        refine hK _ _ hCC ?_
        clear hK K HMK
        refine takeH16 (i := 8) (x := .tuple #[xm, .int .i64 0]) rfl rfl (by kernel_rfl) (by kernel_rfl) (by kernel_rfl) (fun _ _ _ h => h) (Or.inl ⟨by kernel_rfl, fun w hw => by (go_simp <;> with_reducible rfl)⟩) hCC ?_
        simp only [List.setIfInBounds_toArray, List.set_cons_zero, List.set_cons_succ]
        refine takeH16 (i := 9) (x := xm) rfl rfl (by kernel_rfl) (by kernel_rfl) (by kernel_rfl) (fun _ _ _ h => h) (Or.inl ⟨by kernel_rfl, fun w hw => by (go_simp <;> with_reducible rfl)⟩) hCC ?_
        simp only [List.setIfInBounds_toArray, List.set_cons_zero, List.set_cons_succ]
        refine takeH16 (i := 10) (x := .int .i64 0) rfl rfl (by kernel_rfl) (by kernel_rfl) (by kernel_rfl) (fun _ _ _ h => h) (Or.inl ⟨by kernel_rfl, fun w hw => by (go_simp <;> with_reducible rfl)⟩) hCC ?_
        simp only [List.setIfInBounds_toArray, List.set_cons_zero, List.set_cons_succ]
        refine takeH16 (i := 11) (x := xm) rfl rfl (by kernel_rfl) (by kernel_rfl) (by kernel_rfl) (fun _ _ _ h => h) (Or.inl ⟨by kernel_rfl, fun w hw => by (go_simp <;> with_reducible rfl)⟩) hCC ?_
        simp only [List.setIfInBounds_toArray, List.set_cons_zero, List.set_cons_succ]
        refine wpAnyH_done (by kernel_rfl) ?_ _
        have HX1 := Lh hxm
        have HY1 := Lh (HCm.out _ hCC)
        have HWY := Lh (Ks HW1'.out (HCn.out _ hCC))
        clear hCC hxm
        have hcK := HKY.out Y1 HY1.out
        obtain ⟨hk0, hk1, hk2, hk3⟩ := hcK
        have hto := rto_any (Da.key16 MK N 1) o1 c1 n (by have := HN90.out; omega) k hkn Y1 (HR1K.out.later HY1.out) (HV.out.later (Ks HB6.out HY1.out)) (by rw [HKLN.out 1 (by omega)]; omega)
        rw [HKLN.out 1 (by omega)] at hto
        obtain ⟨q, hq⟩ : ∃ q, Da.to16 MK N p k = q := ⟨_, rfl⟩
        have hqe : Da.pl (Da.son (Da.key16 MK N 1) (Da.bw n)) n (4 ^ Da.bw n) k = q := by rw [<- hq, <- HN.out]; rfl
        rw [hqe] at hto
        have hqn : q < n := by rw [<- hq, <- HN.out]; exact Da.to16_lt (by rw [HN.out]; have := HN90.out; omega) (by rw [HN.out]; exact hkn)
        have HTO := Lh hto
        have HQ := Lh hq
        have HQN := Lh hqn
        clear hto hq hqe hk0 hk2 hk3
        go_upto_region 19 with fail
        apply wp_region_lit
        iterate 4 (refine wpList_plain rfl (fun K hK => ?_); go_simp; refine hK _ _ ?_; clear hK K)
        (refine wpList_plain rfl (fun K hK => ?_); go_simp)
        refine HTO.out.mono ?_
        rintro e Y2 ⟨rfl, hb⟩
        refine hK _ _ ?_
        clear hK K HTO hk1
        have HY2 := Lh (Ks HY1.out hb)
        have HX2 := Lh (HX1.out.later hb)
        have HW2' := Lh (Ks HWY.out hb)
        clear hb
        (refine wpList_plain rfl (fun K hK => ?_); go_simp; refine hK _ _ ?_; clear hK K)
        have hcK := HKY.out Y2 HY2.out
        obtain ⟨hk0, hk1, hk2, hk3⟩ := hcK
        have htg := rtag16_rv (k := Da.key16 MK N 3) (b := Da.raw16 MK N F k) (x := .slice o3 32 c3) (n := (q : Int)) ⟨o3, c3, by rw [HKLN.out 3 (by omega)], HR3K.out.later HY2.out⟩ HX2.out (HV.out.later (Ks HB6.out HY2.out)) (by rw [HKLN.out 3 (by omega)]; omega) (by rw [Da.raw16_length _ _ _ _ (by have := HN90.out; omega)]; omega)
        have HTG := Lh htg
        clear htg hk0 hk1 hk2
        go_upto_region 20 with fail
        apply wp_region_lit
        iterate 6 (refine wpList_plain rfl (fun K hK => ?_); go_simp; refine hK _ _ ?_; clear hK K)
        (refine wpList_plain rfl (fun K hK => ?_); go_simp)
        refine HTG.out.mono ?_
        rintro e Y3 ⟨r, rfl, hr, hb⟩
        refine hK _ _ ?_
        clear hK K HTG hk3
        have hA3 := (HA.out.later HW2'.out HA.out.lt).later hb (HA.out.later HW2'.out HA.out.lt).lt
        have hE3 := HEL.out.later (Ks HW2'.out hb)
        have hY3 := Ks HY2.out hb
        have hyl : ys.length = n := by rw [hE3.len]; unfold Da.st16; rw [Da.stp16_length]; exact HN.out
        have hgr : Y3.grownBy (Y3.setCell ⟨go, q, none⟩ r) (some go) := grown_cell16 Y3 go q r
        have hE4 := (hE3.putArr hA3 hE3.slices hgr).set q (hr.putArr hA3 hE3.slices hgr)
        have hst : (Da.st16 MK N F p k).set q (Da.tg16 (Da.key16 MK N 3) (q : Int) (Da.raw16 MK N F k)) = Da.st16 MK N F p (k + 1) := by
         have := Da.st16_succ MK N F p (by rw [HN.out]; have := HN90.out; omega) k (by rw [HN.out]; exact hkn)
         rw [HQ.out] at this
         exact this
        rw [hst] at hE4
        have HFIN : Hid (Rq16 MK N F p go n W6 (.int .i64 ((k : Int) + 1)) (Y3.setCell ⟨go, q, none⟩ r)) := Lh ⟨k + 1, ys.set q r, by omega, by go_num, hA3.set q r, hE4, hY3.setCell (p := ⟨go, q, none⟩) HGOL.out r⟩
        have hfz := hA3.frozen q
        obtain ⟨old, hold⟩ : ∃ old, ys[q]? = some old := ⟨ys[q]'(by have := HQN.out; omega), List.getElem?_eq_getElem (by have := HQN.out; omega)⟩
        have hcell : Y3.cell? ⟨go, q, none⟩ = some old := by rw [hA3.cell]; exact hold
        have hbq : 0 <= (q : Int) /\ (q : Int) < (n : Int) := by have := HQN.out; omega
        obtain ⟨orr, crr, rfl, hrr⟩ := hr
        clear hA3 hE3 hY3 hyl hgr hE4 hst hold hrr hb
        have hk90 := HN90.out
        go_wp2_with fail
        exact ⟨HFIN.out, by simp [intOf]; omega⟩
       ·have dT : decide ((k : Int) < (T : Int)) = false := decide_eq_false (by omega)
        have dT2 : decide (k < T) = false := decide_eq_false hkT
        have hcK := HKY.out X1 HYX.out
        obtain ⟨hk0, hk1, hk2, hk3⟩ := hcK
        have hws : IntKind.i64.wrap ((k : Int) - (T : Int)) = ((k - T : Nat) : Int) := by rw [IntKind.wrap_i64]; have := HN90.out; omega
        have hbk := rblk_any (Da.key16 MK N 2) o2 c2 ((k - T : Nat) : Int) X1 (HR2K.out.later HYX.out) (HV.out.later (Ks HB6.out HYX.out)) (by rw [HKLN.out 2 (by omega)]; omega)
        have hrb0 : Da.rb ((k - T : Nat) : Int) = 0 := by unfold Da.rb; rw [Da.inR16 _ (by have := HN90.out; omega)]; rfl
        rw [hrb0, HKLN.out 2 (by omega)] at hbk
        have HBK := Lh hbk
        obtain ⟨m, hm⟩ : ∃ m, k - T = m := ⟨_, rfl⟩
        rw [hm] at hws HBK
        have HM := Lh hm
        clear hbk hrb0 hk0 hk1 hk3 hm
        go_wp2_with fail
        refine HBK.out.mono ?_
        rintro e Y1 ⟨xm, rfl, hxm, hb⟩
        have hxm2 : RowV (Da.raw16 MK N F k) xm Y1 := by
         unfold Da.raw16
         rw [if_neg (by rw [HALT.out]; exact hkT), HALT.out, HM.out]
         exact hxm
        have HX1 := Lh hxm2
        have HY1 := Lh (Ks HYX.out hb)
        have HWY := Lh (Ks HW1'.out hb)
        clear hb hxm hxm2 HBK hk2 hws
        have hcK := HKY.out Y1 HY1.out
        obtain ⟨hk0, hk1, hk2, hk3⟩ := hcK
        have hto := rto_any (Da.key16 MK N 1) o1 c1 n (by have := HN90.out; omega) k hkn Y1 (HR1K.out.later HY1.out) (HV.out.later (Ks HB6.out HY1.out)) (by rw [HKLN.out 1 (by omega)]; omega)
        rw [HKLN.out 1 (by omega)] at hto
        obtain ⟨q, hq⟩ : ∃ q, Da.to16 MK N p k = q := ⟨_, rfl⟩
        have hqe : Da.pl (Da.son (Da.key16 MK N 1) (Da.bw n)) n (4 ^ Da.bw n) k = q := by rw [<- hq, <- HN.out]; rfl
        rw [hqe] at hto
        have hqn : q < n := by rw [<- hq, <- HN.out]; exact Da.to16_lt (by rw [HN.out]; have := HN90.out; omega) (by rw [HN.out]; exact hkn)
        have HTO := Lh hto
        have HQ := Lh hq
        have HQN := Lh hqn
        clear hto hq hqe hk0 hk2 hk3
        go_upto_region 19 with fail
        apply wp_region_lit
        iterate 4 (refine wpList_plain rfl (fun K hK => ?_); go_simp; refine hK _ _ ?_; clear hK K)
        (refine wpList_plain rfl (fun K hK => ?_); go_simp)
        refine HTO.out.mono ?_
        rintro e Y2 ⟨rfl, hb⟩
        refine hK _ _ ?_
        clear hK K HTO hk1
        have HY2 := Lh (Ks HY1.out hb)
        have HX2 := Lh (HX1.out.later hb)
        have HW2' := Lh (Ks HWY.out hb)
        clear hb
        (refine wpList_plain rfl (fun K hK => ?_); go_simp; refine hK _ _ ?_; clear hK K)
        have hcK := HKY.out Y2 HY2.out
        obtain ⟨hk0, hk1, hk2, hk3⟩ := hcK
        have htg := rtag16_rv (k := Da.key16 MK N 3) (b := Da.raw16 MK N F k) (x := .slice o3 32 c3) (n := (q : Int)) ⟨o3, c3, by rw [HKLN.out 3 (by omega)], HR3K.out.later HY2.out⟩ HX2.out (HV.out.later (Ks HB6.out HY2.out)) (by rw [HKLN.out 3 (by omega)]; omega) (by rw [Da.raw16_length _ _ _ _ (by have := HN90.out; omega)]; omega)
        have HTG := Lh htg
        clear htg hk0 hk1 hk2
        go_upto_region 20 with fail
        apply wp_region_lit
        iterate 6 (refine wpList_plain rfl (fun K hK => ?_); go_simp; refine hK _ _ ?_; clear hK K)
        (refine wpList_plain rfl (fun K hK => ?_); go_simp)
        refine HTG.out.mono ?_
        rintro e Y3 ⟨r, rfl, hr, hb⟩
        refine hK _ _ ?_
        clear hK K HTG hk3
        have hA3 := (HA.out.later HW2'.out HA.out.lt).later hb (HA.out.later HW2'.out HA.out.lt).lt
        have hE3 := HEL.out.later (Ks HW2'.out hb)
        have hY3 := Ks HY2.out hb
        have hyl : ys.length = n := by rw [hE3.len]; unfold Da.st16; rw [Da.stp16_length]; exact HN.out
        have hgr : Y3.grownBy (Y3.setCell ⟨go, q, none⟩ r) (some go) := grown_cell16 Y3 go q r
        have hE4 := (hE3.putArr hA3 hE3.slices hgr).set q (hr.putArr hA3 hE3.slices hgr)
        have hst : (Da.st16 MK N F p k).set q (Da.tg16 (Da.key16 MK N 3) (q : Int) (Da.raw16 MK N F k)) = Da.st16 MK N F p (k + 1) := by
         have := Da.st16_succ MK N F p (by rw [HN.out]; have := HN90.out; omega) k (by rw [HN.out]; exact hkn)
         rw [HQ.out] at this
         exact this
        rw [hst] at hE4
        have HFIN : Hid (Rq16 MK N F p go n W6 (.int .i64 ((k : Int) + 1)) (Y3.setCell ⟨go, q, none⟩ r)) := Lh ⟨k + 1, ys.set q r, by omega, by go_num, hA3.set q r, hE4, hY3.setCell (p := ⟨go, q, none⟩) HGOL.out r⟩
        have hfz := hA3.frozen q
        obtain ⟨old, hold⟩ : ∃ old, ys[q]? = some old := ⟨ys[q]'(by have := HQN.out; omega), List.getElem?_eq_getElem (by have := HQN.out; omega)⟩
        have hcell : Y3.cell? ⟨go, q, none⟩ = some old := by rw [hA3.cell]; exact hold
        have hbq : 0 <= (q : Int) /\ (q : Int) < (n : Int) := by have := HQN.out; omega
        obtain ⟨orr, crr, rfl, hrr⟩ := hr
        clear hA3 hE3 hY3 hyl hgr hE4 hst hold hrr hb
        have hk90 := HN90.out
        go_wp2_with fail
        exact ⟨HFIN.out, by simp [intOf]; omega⟩
     ·have ek : k = n := by omega
      subst ek
      have dk : decide ((k : Int) < (k : Int)) = false := decide_eq_false (by omega)
      have dk2 : decide (k < k) = false := decide_eq_false (by omega)
      have hl : ys.length = k := by rw [HEL.out.len]; unfold Da.st16; rw [Da.stp16_length]; exact HN.out
      have hrow := HA.out
      go_wp2_with fail
      go_ret2
      refine ⟨.slice (some ⟨go, 0, none⟩) k k, rfl, ?_, Ks HB6.out HBW.out⟩
      refine ⟨some ⟨go, 0, none⟩, k, by rw [Da.all16_length, HN.out], ys, ?_, ?_⟩
      ·exact ⟨Nat.le_of_eq hl, by have := HN90.out; unfold maxLen; omega, (fun e => by cases e), (fun _ => ⟨go, 0, rfl, hrow.lt, fun i v hv => by rw [Nat.zero_add, hrow.cell]; exact hv⟩)⟩
      ·have := HEL.out
       rw [<- HN.out] at this
       exact this
   ·have hn1 : ¬ (SB : Int) = 0 := by omega
    have hn2 : ((SB : Int) == 0) = false := beq_false_of_ne hn1
    have hn3 : ((SB : Int) != 0) = true := by rw [bne_iff_ne]; exact hn1
    go_wp2_with fail
    go_ret2
    exact ⟨.slice none 0 0, rfl, ⟨none, 0, rfl, RbIs.empty none 0 (Nat.zero_le _) (fun _ => rfl)⟩, HB5.out⟩
  ·have hsb : SB = 8 := by rw [<- HSB.out]; unfold Da.sbad16; rw [if_pos h0, if_neg hsz]
   subst hsb
   have hq1 : ((F.length : Int) != p.sz) = true := by rw [bne_iff_ne]; exact hsz
   have hq2 : ((F.length : Int) == p.sz) = false := beq_false_of_ne hsz
   go_wp2_with fail
   go_ret2
   exact ⟨.slice none 0 0, rfl, ⟨none, 0, rfl, RbIs.empty none 0 (Nat.zero_le _) (fun _ => rfl)⟩, HB2.out⟩
 ·have e0 : E ≠ 0 := fun h => h0 (HE0.out.1 h)
  have hsb : SB = E := by rw [<- HSB.out, <- HEE.out]; unfold Da.sbad16; rw [if_neg h0]
  subst hsb
  have hn1 : ¬ (SB : Int) = 0 := by omega
  have hn2 : ((SB : Int) == 0) = false := beq_false_of_ne hn1
  have hn3 : ((SB : Int) != 0) = true := by rw [bne_iff_ne]; exact hn1
  go_wp2_with fail
  go_ret2
  exact ⟨.slice none 0 0, rfl, ⟨none, 0, rfl, RbIs.empty none 0 (Nat.zero_le _) (fun _ => rfl)⟩, HB2.out⟩
theorem rseal16_any (MK F : List UInt8) (ok oF : Option Addr) (ck cF : Nat) (N : Int) (p : Pm15) (hok : p.ok) (w : World) (hK : RowIs w ok (bytesV MK) ck) (hF : RowIs w oF (bytesV F) cF) (hV : Rds w) (hkl : MK.length <= 100) (hfl : F.length <= 400) :
    Calls Tryz.prog 11 #[.slice ok MK.length ck, .int .i64 N, .slice oF F.length cF, .agg (pmA p)] w fun e w' => ∃ x, e = .returned (.tuple #[x, .int .i64 ((Da.sbad16 MK N F p : Nat) : Int)]) /\ RbV (if Da.sbad16 MK N F p = 0 then Da.all16 MK N F p else []) x w' /\ Below w.heap.size w w' :=
 rseal16_of nil5.toArray rfl k5_zero MK F ok oF ck cF N p hok w hK hF hV hkl hfl
end Go.Proofs.YtffheegeaghfjaaGreatDoor
