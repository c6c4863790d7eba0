/- YPS -/
import Derived.Test.YtffheegeaghfjaaGreatDoorVr2
import Derived.Test.YtffheegeaghfjaaGreatDoorUx16
import Derived.Test.YtffheegeaghfjaaGreatDoorPkx
import Derived.Test.YtffheegeaghfjaaGreatDoorCh16
import Derived.Test.YtffheegeaghfjaaGreatDoorYHPS
import Derived.Test.YtffheegeaghfjaaGreatDoorYPST
set_option linter.unusedVariables false
set_option linter.unusedSimpArgs false
set_option maxRecDepth 100000
set_option maxHeartbeats 8000000
namespace Go.Proofs.YtffheegeaghfjaaGreatDoor
open Go.RowKit Go.Extern.Stop Go.Stop Go.Extern
namespace Er
theorem noIsW (v : Value) (xT : TypeId) (w : World) : (Instr.typeAssert (.iface 137 v) xT 207 true).run Tryz.prog w = .ok (.tuple #[.nilIface, .bool false]) w := run_typeAssert_lacksB Tryz.underlying207 (by kernel_rfl) (by kernel_rfl) v xT w
theorem hasUnwrapW (v : Value) (xT : TypeId) (w : World) : (Instr.typeAssert (.iface 137 v) xT 210 true).run Tryz.prog w = .ok (.tuple #[.iface 137 v, .bool true]) w := run_typeAssert_hasB Tryz.underlying210 (by kernel_rfl) v xT w
theorem mUnwrapW (v : Value) (w : World) : (Go.method 394 137 v "Unwrap").run Tryz.prog w = .ok (209, v) w := by kernel_rfl
def UnwrapOk : Prop := ∀ (W : World) (a : Addr) (v : Value), W.cell? ⟨a.block, a.off + 2, none⟩ = some v -> a.spot = none -> Calls Tryz.prog 209 #[.pointer (some a)] W fun e w' => e = .returned v /\ W = w'
theorem isF_one (U : UnwrapOk) (b : Nat) (x y : Addr) (w : World) (hc : w.cell? ⟨b, 2, none⟩ = some (.iface 256 (.pointer (some x)))) (hx : ∃ c t, w.heap[x.block]? = some (.cells c t (0, 0))) (hy : ∃ c t, w.heap[y.block]? = some (.cells c t (0, 0))) :
    Calls Tryz.prog 87 #[.iface 137 (.pointer (some ⟨b, 0, none⟩)), .iface 256 (.pointer (some y)), .bool true] w fun e w' => e = .returned (.bool (decide (x = y))) /\ w = w' := by
 obtain ⟨ca, ta, hx⟩ := hx
 obtain ⟨cb, tb, hy⟩ := hy
 obtain ⟨i, hi, hcmp⟩ := Option.map_eq_some_iff.1 isComp
 obtain ⟨j, hj, hjs⟩ := Option.map_eq_some_iff.1 isSize
 have nE := noIsE
 have uE := noUnwrapE
 have vE := noUnwrapsE
 have nW := noIsW
 have uW := hasUnwrapW
 have mW := mUnwrapW
 have heqW := fun v u => run_eql_iface_types (P := Tryz.prog) (ti := 36) 137 256 v u Tryz.underlying36 (by decide) w
 have HU := Lh (U w ⟨b, 0, none⟩ _ hc rfl)
 clear U hc
 by_cases hxy : x = y
 ·subst hxy
  have heq := run_eql_iface_ptr_same (P := Tryz.prog) w x Tryz.underlying36 Tryz.underlying256 hi hcmp hj
  go_enter Tryz.func87, Tryz.ntmps87
  go_wp2_with fail
  refine wp_loop_rounds 2 ?_
  rw [rounds_succ]
  go_wp2_with fail
  refine HU.out.mono ?_
  rintro e w1 ⟨rfl, rfl⟩
  go_wp2_with fail
  rw [rounds_succ]
  go_wp2_with fail
  go_ret
  exact ⟨by simp, rfl⟩
 ·have heq := run_eql_iface_ptr_other (P := Tryz.prog) w Tryz.underlying36 Tryz.underlying256 hi hcmp hj (by rw [hjs]; decide) hxy hx hy
  go_enter Tryz.func87, Tryz.ntmps87
  go_wp2_with fail
  refine wp_loop_rounds 2 ?_
  rw [rounds_succ]
  go_wp2_with fail
  refine HU.out.mono ?_
  rintro e w1 ⟨rfl, rfl⟩
  go_wp2_with fail
  rw [rounds_succ]
  go_wp2_with fail
  go_ret
  exact ⟨by simp [hxy], rfl⟩
theorem is_of (T : TypeId) (v : Value) (y : Addr) (r : Bool) (w : World)
    (h : Calls Tryz.prog 87 #[.iface T v, .iface 256 (.pointer (some y)), .bool true] w fun e w' => e = .returned (.bool r) /\ w = w') :
    Calls Tryz.prog 44 #[.iface T v, .iface 256 (.pointer (some y))] w fun e w' => e = .returned (.bool r) /\ w = w' := by
 have h8 := @run_callFunc_extern Tryz.prog 86 _ Extern.ReflectliteType.typeOf Tryz.func86 (by kernel_rfl) (by kernel_rfl) (by kernel_rfl) (by kernel_rfl)
 have tT := isTypeOf
 have cT := isComparable
 have mR := isMethodComparable
 have H := Lh h
 clear h
 go_enter Tryz.func44, Tryz.ntmps44
 go_wp2_with fail
 refine H.out.mono ?_
 rintro e w1 ⟨rfl, rfl⟩
 go_wp2_with fail
 go_ret
 exact ⟨rfl, rfl⟩
theorem num_by (A : Nat -> Addr) (k : Nat) (hk : k < 20) (T : TypeId) (v : Value) (w : World) (hE : Errs w A)
    (hI : ∀ w' j, Below w.heap.size w w' -> j < 20 -> Calls Tryz.prog 44 #[.iface T v, .iface 256 (.pointer (some (A j)))] w' fun e u => e = .returned (.bool (decide (k = j))) /\ w' = u) :
    Calls Tryz.prog 12 #[.iface T v] w fun e w' => e = .returned (.int .i64 (k + 1 : Nat)) /\ Below w.heap.size w w' := by
 have HE := Lh hE
 have HI := Lh hI
 obtain ⟨inj, c0, c1, c2, c3, c4, c5, c6, c7, c8, c9, c10, c11, c12, c13, c14, c15, c16, c17, c18, c19, hbl⟩ := hE
 clear inj hbl hI
 go_enter Tryz.func12, Tryz.ntmps12
 go_wp2
 go_loopw [31] (fun v wr => NumAt w A k v wr) (fun v _ => 20 - (intOf v).toNat)
 case atStart =>
  refine ⟨0, _, by omega, rfl, ?_, rfl⟩
  intro j hj
  match j, hj with
  | 0, _ | 1, _ | 2, _ | 3, _ | 4, _ | 5, _ | 6, _ | 7, _ | 8, _ | 9, _ | 10, _ | 11, _ | 12, _ | 13, _ | 14, _ | 15, _ | 16, _ | 17, _ | 18, _ | 19, _ => rfl
  | n + 20, h => omega
 case round =>
  clear c0 c1 c2 c3 c4 c5 c6 c7 c8 c9 c10 c11 c12 c13 c14 c15 c16 c17 c18 c19
  obtain ⟨i, C, hi, rfl, hC, rfl⟩ := hrel
  have hCi := hC i (by omega)
  have HC := Lh hC
  clear hC
  have hi20 : i < 20 := by omega
  have HII := Lh (HI.out (w.alloc (.cells C 36)) i ((Below.refl _ _).alloc (Nat.le_refl _) _) hi20)
  by_cases h : i = k
  ·subst h
   have H1 := Lh (HII.out.mono fun e u q => (show e = .returned (.bool true) /\ w.alloc (.cells C 36) = u from ⟨by rw [q.1]; simp, q.2⟩))
   clear HII
   go_wp2_with (go_at_call 44; refine H1.out.mono ?_; rintro e w' ⟨rfl, rfl⟩)
   go_ret
   exact ⟨by go_num, (Below.refl _ _).alloc (Nat.le_refl _) _⟩
  ·have H1 := Lh (HII.out.mono fun e u q => (show e = .returned (.bool false) /\ w.alloc (.cells C 36) = u from ⟨by rw [q.1]; simp; omega, q.2⟩))
   clear HII
   go_wp2_with (go_at_call 44; refine H1.out.mono ?_; rintro e w' ⟨rfl, rfl⟩)
   go_roundw
   case rel => exact ⟨i + 1, C, by omega, by go_num, HC.out, rfl⟩
   case measure => simp [intOf]; omega
theorem Errs.inj_iff {W : World} {A : Nat -> Addr} (h : Errs W A) {k j : Nat} (hk : k < 20) (hj : j < 20) : decide (A k = A j) = decide (k = j) := by
 by_cases e : k = j
 ·subst e; simp
 ·have : ¬ A k = A j := fun e2 => e (h.inj k j hk hj e2)
  simp [e, this]
theorem below_cell2 {w w' : World} {b : Nat} {v : Value} (h : w.cell? ⟨b, 2, none⟩ = some v) (hb : Below w.heap.size w w') : w'.cell? ⟨b, 2, none⟩ = some v := by
 have hlt : b < w.heap.size := by
  unfold World.cell? at h
  cases hh : w.heap[b]? with
  | none => simp [hh] at h
  | some o => exact (aE.1 hh).1
 rw [hb.cell (p := ⟨b, 2, none⟩) hlt]; exact h
theorem num_wrong (U : UnwrapOk) (A : Nat -> Addr) (k : Nat) (hk : k < 20) (b : Nat) (w : World) (hE : Errs w A) (hc : w.cell? ⟨b, 2, none⟩ = some (.iface 256 (.pointer (some (A k))))) :
    Calls Tryz.prog 12 #[.iface 137 (.pointer (some ⟨b, 0, none⟩))] w fun e w' => e = .returned (.int .i64 (k + 1 : Nat)) /\ Below w.heap.size w w' := by
 refine num_by A k hk _ _ w hE fun w' j hb hj => ?_
 have hE2 := hE.later hb
 have h := is_of 137 _ (A j) _ w' (isF_one U b (A k) (A j) w' (below_cell2 hc hb) (hE2.block k hk) (hE2.block j hj))
 rw [hE2.inj_iff hk hj] at h
 exact h
end Er
end Go.Proofs.YtffheegeaghfjaaGreatDoor
namespace Go.Proofs.YtffheegeaghfjaaGreatDoor
open Go.RowKit Go.Extern.Stop Go.Stop Go.Extern
end Go.Proofs.YtffheegeaghfjaaGreatDoor

namespace Go.Proofs.YtffheegeaghfjaaGreatDoor.Da
theorem nbe_lt (l : List UInt8) (j : Nat) : nbe (l.take j) < 256 ^ j := by
 induction j with
 | zero => simp [nbe]
 | succ j ih =>
  by_cases hj : j < l.length
  ·rw [nbe_step l j hj, Nat.pow_succ]
   have := UInt8.toNat_lt (l.getD j 0)
   omega
  ·rw [List.take_of_length_le (by omega), <- List.take_of_length_le (l := l) (i := j) (by omega)]
   exact Nat.lt_of_lt_of_le ih (Nat.pow_le_pow_right (by omega) (by omega))
end Go.Proofs.YtffheegeaghfjaaGreatDoor.Da

namespace Go.Proofs.YtffheegeaghfjaaGreatDoor
open Go.RowKit
def RsAt (m : Nat) (w : World) (n v : Value) (wr : World) : Prop :=
 Below w.heap.size w wr /\ ((n = .int .i64 (m : Int) /\ wr.ownsRow w.heap.size 3 1 v 0 (intsV [])) ∨ (223 < m /\ n = .int .i64 ((m - 223 : Nat) : Int) /\ wr.ownsRow w.heap.size 3 1 v 1 (intsV [223])))
theorem rshape_any (n : Nat) (w : World) (hn : n <= 2000) :
    Calls Tryz.prog 80 #[.int .i64 (n : Int)] w fun e w' => ∃ x, e = .returned (.tuple #[x, .int .i64 0]) /\ IntsV (natI (shp n)) x w' /\ Below w.heap.size w w' := by
 have hd : decide ((n : Int) < 0) = false := decide_eq_false (by omega)
 have hd2 : decide ((2000 : Int) < (n : Int)) = false := decide_eq_false (by omega)
 have hb := nbk_bd n hn
 have h1 := nbk_pos n
 have hs : shp n = if 223 < nbk n then [223, nbk n - 223] else [nbk n] := rfl
 have hnb : nbk n = if n = 0 then 1 else (n + 7) / 8 := rfl
 obtain ⟨w1, hw1⟩ : ∃ w1, w.alloc (.cells #[] 3) = w1 := ⟨_, rfl⟩
 have HO1 : Hid (w1.ownsRow w.heap.size 3 1 (.slice (some ⟨w.heap.size, 0, none⟩) 0 0) 0 (intsV [])) := Lh (by rw [<- hw1]; exact World.ownsRow_lit w #[] 0 (Nat.le_refl _) (Nat.zero_le _) rfl)
 have HB1 : Hid (Below w.heap.size w w1) := Lh (by rw [<- hw1]; exact below_new _ _)
 have HW1 := Lh hw1
 have HS := Lh hs
 have HNB := Lh hnb
 obtain ⟨m, hm⟩ : ∃ m, nbk n = m := ⟨_, rfl⟩
 have HM := Lh hm
 rw [hm] at hb h1
 clear hw1 hs hnb
 by_cases hr : 0 < n % 8
 ·have hdr : decide ((0 : Int) < (n : Int) % 8) = true := decide_eq_true (by omega)
  have hm2 : (n : Int) / 8 + 1 = (m : Int) := by
   rw [<- hm, HNB.out]
   split <;> omega
  have HM2 := Lh hm2
  clear hr hm2 hm
  go_enter Tryz.func80, Tryz.ntmps80
  go_wp2_with (first | rw [HW1.out])
  go_loopw [4, 5] (fun a v wr => RsAt m w a v wr) (fun a _ _ => (intOf a).toNat)
  case atStart => exact ⟨HB1.out, .inl ⟨by rw [HM2.out], HO1.out⟩⟩
  case round =>
   obtain ⟨hb2, ⟨rfl, hv⟩ | ⟨hgt, rfl, hv⟩⟩ := hrel
   ·have HB2 := Lh hb2
    have HV2 := Lh hv
    by_cases hg : 223 < m
    ·have hd3 : decide ((223 : Int) < (m : Int)) = true := decide_eq_true (by omega)
     obtain ⟨k, hk⟩ : ∃ k, m - 223 = k := ⟨_, rfl⟩
     have HK := Lh hk
     have HW := Lh (show (m : Int) - 223 = (k : Int) by omega)
     have HG := Lh hg
     have hkl : k < m := by omega
     obtain ⟨w3, hw3⟩ : ∃ w3, wr.alloc (.cells #[.int .i64 223] 3) = w3 := ⟨_, rfl⟩
     have HO3 : Hid (w3.ownsRow w.heap.size 3 1 _ 0 (intsV [])) := Lh (by rw [<- hw3]; exact World.ownsRow.alloc hv _)
     have HC3 : Hid (w3.cell? ⟨wr.heap.size, 0, none⟩ = some (.int .i64 223)) := Lh (by rw [<- hw3]; exact cell_new wr _ _ _ rfl)
     have HB3 : Hid (Below w.heap.size w w3) := Lh (by rw [<- hw3]; exact hb2.alloc hb2.size _)
     have HW3 := Lh hw3
     clear hb2 hv hg hk hw3
     go_wp2_with (first | rw [HW3.out] | rw [HW.out] | (at_builtin; refine append_int rfl (.tmp 26) (.tmp 27) rfl w.heap.size _ 0 [] rfl HO3.out _ 223 rfl HC3.out (by omega) HB3.out.size ?_))
     intro v' w4 hv hg
     have HB4 := Lh (own_belowI HB3.out HO3.out hg)
     have HV4 := Lh hv
     clear hv hg
     go_wp2_with (rw [HW.out])
     go_roundw
     case rel => exact ⟨HB4.out, .inr ⟨HG.out, by rw [HK.out], HV4.out⟩⟩
     case measure =>
      have := HW.out
      simp [intOf]; omega
    ·have hd3 : decide ((223 : Int) < (m : Int)) = false := decide_eq_false (by omega)
     have HG := Lh hg
     obtain ⟨w3, hw3⟩ : ∃ w3, wr.alloc (.cells #[.int .i64 (m : Int)] 3) = w3 := ⟨_, rfl⟩
     have HO3 : Hid (w3.ownsRow w.heap.size 3 1 _ 0 (intsV [])) := Lh (by rw [<- hw3]; exact World.ownsRow.alloc hv _)
     have HC3 : Hid (w3.cell? ⟨wr.heap.size, 0, none⟩ = some (.int .i64 (m : Int))) := Lh (by rw [<- hw3]; exact cell_new wr _ _ _ rfl)
     have HB3 : Hid (Below w.heap.size w w3) := Lh (by rw [<- hw3]; exact hb2.alloc hb2.size _)
     have HW3 := Lh hw3
     clear hb2 hv hg hw3
     go_wp2_with (first | rw [HW3.out] | (at_builtin; refine append_int rfl (.tmp 31) (.tmp 33) rfl w.heap.size _ 0 [] rfl HO3.out _ (m : Int) rfl HC3.out (by omega) HB3.out.size ?_))
     intro v' w4 hv hg
     have HB4 := Lh (own_belowI HB3.out HO3.out hg)
     have HV4 := Lh (owns_ints hv rfl)
     clear hv hg
     go_wp2_with fail
     go_ret2
     exact ⟨v', rfl, by rw [HS.out, HM.out, if_neg HG.out]; exact HV4.out, HB4.out⟩
   ·have HG := Lh hgt
    obtain ⟨k, hk⟩ : ∃ k, m - 223 = k := ⟨_, rfl⟩
    rw [hk]
    have hd3 : decide ((223 : Int) < (k : Int)) = false := decide_eq_false (by omega)
    have HK := Lh hk
    obtain ⟨w3, hw3⟩ : ∃ w3, wr.alloc (.cells #[.int .i64 (k : Int)] 3) = w3 := ⟨_, rfl⟩
    have HO3 : Hid (w3.ownsRow w.heap.size 3 1 _ 1 (intsV [223])) := Lh (by rw [<- hw3]; exact World.ownsRow.alloc hv _)
    have HC3 : Hid (w3.cell? ⟨wr.heap.size, 0, none⟩ = some (.int .i64 (k : Int))) := Lh (by rw [<- hw3]; exact cell_new wr _ _ _ rfl)
    have HB3 : Hid (Below w.heap.size w w3) := Lh (by rw [<- hw3]; exact hb2.alloc hb2.size _)
    have HW3 := Lh hw3
    clear hb2 hv hgt hk hw3
    go_wp2_with (first | rw [HW3.out] | (at_builtin; refine append_int rfl (.tmp 31) (.tmp 33) rfl w.heap.size _ 1 [223] rfl HO3.out _ (k : Int) rfl HC3.out (by omega) HB3.out.size ?_))
    intro v' w4 hv hg
    have HB4 := Lh (own_belowI HB3.out HO3.out hg)
    have HV4 := Lh (owns_ints hv rfl)
    clear hv hg
    go_wp2_with fail
    go_ret2
    exact ⟨v', rfl, by rw [HS.out, HM.out, if_pos HG.out, HK.out]; exact HV4.out, HB4.out⟩
 ·by_cases h0 : n = 0
  ·have hm2 : (1 : Int) = (m : Int) := by
    rw [<- hm, HNB.out, if_pos h0]; rfl
   have HM2 := Lh hm2
   subst h0
   clear hr hm2 hm hd hd2
   go_enter Tryz.func80, Tryz.ntmps80
   go_wp2_with (first | rw [HW1.out])
   go_loopw [4, 5] (fun a v wr => RsAt m w a v wr) (fun a _ _ => (intOf a).toNat)
   case atStart => exact ⟨HB1.out, .inl ⟨by rw [<- HM2.out], HO1.out⟩⟩
   case round =>
    obtain ⟨hb2, ⟨rfl, hv⟩ | ⟨hgt, rfl, hv⟩⟩ := hrel
    ·have HB2 := Lh hb2
     have HV2 := Lh hv
     by_cases hg : 223 < m
     ·have hd3 : decide ((223 : Int) < (m : Int)) = true := decide_eq_true (by omega)
      obtain ⟨k, hk⟩ : ∃ k, m - 223 = k := ⟨_, rfl⟩
      have HK := Lh hk
      have HW := Lh (show (m : Int) - 223 = (k : Int) by omega)
      have HG := Lh hg
      have hkl : k < m := by omega
      obtain ⟨w3, hw3⟩ : ∃ w3, wr.alloc (.cells #[.int .i64 223] 3) = w3 := ⟨_, rfl⟩
      have HO3 : Hid (w3.ownsRow w.heap.size 3 1 _ 0 (intsV [])) := Lh (by rw [<- hw3]; exact World.ownsRow.alloc hv _)
      have HC3 : Hid (w3.cell? ⟨wr.heap.size, 0, none⟩ = some (.int .i64 223)) := Lh (by rw [<- hw3]; exact cell_new wr _ _ _ rfl)
      have HB3 : Hid (Below w.heap.size w w3) := Lh (by rw [<- hw3]; exact hb2.alloc hb2.size _)
      have HW3 := Lh hw3
      clear hb2 hv hg hk hw3
      go_wp2_with (first | rw [HW3.out] | rw [HW.out] | (at_builtin; refine append_int rfl (.tmp 26) (.tmp 27) rfl w.heap.size _ 0 [] rfl HO3.out _ 223 rfl HC3.out (by omega) HB3.out.size ?_))
      intro v' w4 hv hg
      have HB4 := Lh (own_belowI HB3.out HO3.out hg)
      have HV4 := Lh hv
      clear hv hg
      go_wp2_with (rw [HW.out])
      go_roundw
      case rel => exact ⟨HB4.out, .inr ⟨HG.out, by rw [HK.out], HV4.out⟩⟩
      case measure =>
       have := HW.out
       simp [intOf]; omega
     ·have hd3 : decide ((223 : Int) < (m : Int)) = false := decide_eq_false (by omega)
      have HG := Lh hg
      obtain ⟨w3, hw3⟩ : ∃ w3, wr.alloc (.cells #[.int .i64 (m : Int)] 3) = w3 := ⟨_, rfl⟩
      have HO3 : Hid (w3.ownsRow w.heap.size 3 1 _ 0 (intsV [])) := Lh (by rw [<- hw3]; exact World.ownsRow.alloc hv _)
      have HC3 : Hid (w3.cell? ⟨wr.heap.size, 0, none⟩ = some (.int .i64 (m : Int))) := Lh (by rw [<- hw3]; exact cell_new wr _ _ _ rfl)
      have HB3 : Hid (Below w.heap.size w w3) := Lh (by rw [<- hw3]; exact hb2.alloc hb2.size _)
      have HW3 := Lh hw3
      clear hb2 hv hg hw3
      go_wp2_with (first | rw [HW3.out] | (at_builtin; refine append_int rfl (.tmp 31) (.tmp 33) rfl w.heap.size _ 0 [] rfl HO3.out _ (m : Int) rfl HC3.out (by omega) HB3.out.size ?_))
      intro v' w4 hv hg
      have HB4 := Lh (own_belowI HB3.out HO3.out hg)
      have HV4 := Lh (owns_ints hv rfl)
      clear hv hg
      go_wp2_with fail
      go_ret2
      exact ⟨v', rfl, by rw [HS.out, HM.out, if_neg HG.out]; exact HV4.out, HB4.out⟩
    ·have HG := Lh hgt
     obtain ⟨k, hk⟩ : ∃ k, m - 223 = k := ⟨_, rfl⟩
     rw [hk]
     have hd3 : decide ((223 : Int) < (k : Int)) = false := decide_eq_false (by omega)
     have HK := Lh hk
     obtain ⟨w3, hw3⟩ : ∃ w3, wr.alloc (.cells #[.int .i64 (k : Int)] 3) = w3 := ⟨_, rfl⟩
     have HO3 : Hid (w3.ownsRow w.heap.size 3 1 _ 1 (intsV [223])) := Lh (by rw [<- hw3]; exact World.ownsRow.alloc hv _)
     have HC3 : Hid (w3.cell? ⟨wr.heap.size, 0, none⟩ = some (.int .i64 (k : Int))) := Lh (by rw [<- hw3]; exact cell_new wr _ _ _ rfl)
     have HB3 : Hid (Below w.heap.size w w3) := Lh (by rw [<- hw3]; exact hb2.alloc hb2.size _)
     have HW3 := Lh hw3
     clear hb2 hv hgt hk hw3
     go_wp2_with (first | rw [HW3.out] | (at_builtin; refine append_int rfl (.tmp 31) (.tmp 33) rfl w.heap.size _ 1 [223] rfl HO3.out _ (k : Int) rfl HC3.out (by omega) HB3.out.size ?_))
     intro v' w4 hv hg
     have HB4 := Lh (own_belowI HB3.out HO3.out hg)
     have HV4 := Lh (owns_ints hv rfl)
     clear hv hg
     go_wp2_with fail
     go_ret2
     exact ⟨v', rfl, by rw [HS.out, HM.out, if_pos HG.out, HK.out]; exact HV4.out, HB4.out⟩
  ·have hdr : decide ((0 : Int) < (n : Int) % 8) = false := decide_eq_false (by omega)
   have hd0 : ((n : Int) == 0) = false := beq_false_of_ne (by omega)
   have hd00 : decide ((n : Int) = 0) = false := decide_eq_false (by omega)
   have hm2 : (n : Int) / 8 = (m : Int) := by
    rw [<- hm, HNB.out, if_neg h0]
    omega
   have HM2 := Lh hm2
   clear hr hm2 hm h0
   go_enter Tryz.func80, Tryz.ntmps80
   go_wp2_with (first | rw [HW1.out])
   go_loopw [4, 5] (fun a v wr => RsAt m w a v wr) (fun a _ _ => (intOf a).toNat)
   case atStart => exact ⟨HB1.out, .inl ⟨by rw [HM2.out], HO1.out⟩⟩
   case round =>
    obtain ⟨hb2, ⟨rfl, hv⟩ | ⟨hgt, rfl, hv⟩⟩ := hrel
    ·have HB2 := Lh hb2
     have HV2 := Lh hv
     by_cases hg : 223 < m
     ·have hd3 : decide ((223 : Int) < (m : Int)) = true := decide_eq_true (by omega)
      obtain ⟨k, hk⟩ : ∃ k, m - 223 = k := ⟨_, rfl⟩
      have HK := Lh hk
      have HW := Lh (show (m : Int) - 223 = (k : Int) by omega)
      have HG := Lh hg
      have hkl : k < m := by omega
      obtain ⟨w3, hw3⟩ : ∃ w3, wr.alloc (.cells #[.int .i64 223] 3) = w3 := ⟨_, rfl⟩
      have HO3 : Hid (w3.ownsRow w.heap.size 3 1 _ 0 (intsV [])) := Lh (by rw [<- hw3]; exact World.ownsRow.alloc hv _)
      have HC3 : Hid (w3.cell? ⟨wr.heap.size, 0, none⟩ = some (.int .i64 223)) := Lh (by rw [<- hw3]; exact cell_new wr _ _ _ rfl)
      have HB3 : Hid (Below w.heap.size w w3) := Lh (by rw [<- hw3]; exact hb2.alloc hb2.size _)
      have HW3 := Lh hw3
      clear hb2 hv hg hk hw3
      go_wp2_with (first | rw [HW3.out] | rw [HW.out] | (at_builtin; refine append_int rfl (.tmp 26) (.tmp 27) rfl w.heap.size _ 0 [] rfl HO3.out _ 223 rfl HC3.out (by omega) HB3.out.size ?_))
      intro v' w4 hv hg
      have HB4 := Lh (own_belowI HB3.out HO3.out hg)
      have HV4 := Lh hv
      clear hv hg
      go_wp2_with (rw [HW.out])
      go_roundw
      case rel => exact ⟨HB4.out, .inr ⟨HG.out, by rw [HK.out], HV4.out⟩⟩
      case measure =>
       have := HW.out
       simp [intOf]; omega
     ·have hd3 : decide ((223 : Int) < (m : Int)) = false := decide_eq_false (by omega)
      have HG := Lh hg
      obtain ⟨w3, hw3⟩ : ∃ w3, wr.alloc (.cells #[.int .i64 (m : Int)] 3) = w3 := ⟨_, rfl⟩
      have HO3 : Hid (w3.ownsRow w.heap.size 3 1 _ 0 (intsV [])) := Lh (by rw [<- hw3]; exact World.ownsRow.alloc hv _)
      have HC3 : Hid (w3.cell? ⟨wr.heap.size, 0, none⟩ = some (.int .i64 (m : Int))) := Lh (by rw [<- hw3]; exact cell_new wr _ _ _ rfl)
      have HB3 : Hid (Below w.heap.size w w3) := Lh (by rw [<- hw3]; exact hb2.alloc hb2.size _)
      have HW3 := Lh hw3
      clear hb2 hv hg hw3
      go_wp2_with (first | rw [HW3.out] | (at_builtin; refine append_int rfl (.tmp 31) (.tmp 33) rfl w.heap.size _ 0 [] rfl HO3.out _ (m : Int) rfl HC3.out (by omega) HB3.out.size ?_))
      intro v' w4 hv hg
      have HB4 := Lh (own_belowI HB3.out HO3.out hg)
      have HV4 := Lh (owns_ints hv rfl)
      clear hv hg
      go_wp2_with fail
      go_ret2
      exact ⟨v', rfl, by rw [HS.out, HM.out, if_neg HG.out]; exact HV4.out, HB4.out⟩
    ·have HG := Lh hgt
     obtain ⟨k, hk⟩ : ∃ k, m - 223 = k := ⟨_, rfl⟩
     rw [hk]
     have hd3 : decide ((223 : Int) < (k : Int)) = false := decide_eq_false (by omega)
     have HK := Lh hk
     obtain ⟨w3, hw3⟩ : ∃ w3, wr.alloc (.cells #[.int .i64 (k : Int)] 3) = w3 := ⟨_, rfl⟩
     have HO3 : Hid (w3.ownsRow w.heap.size 3 1 _ 1 (intsV [223])) := Lh (by rw [<- hw3]; exact World.ownsRow.alloc hv _)
     have HC3 : Hid (w3.cell? ⟨wr.heap.size, 0, none⟩ = some (.int .i64 (k : Int))) := Lh (by rw [<- hw3]; exact cell_new wr _ _ _ rfl)
     have HB3 : Hid (Below w.heap.size w w3) := Lh (by rw [<- hw3]; exact hb2.alloc hb2.size _)
     have HW3 := Lh hw3
     clear hb2 hv hgt hk hw3
     go_wp2_with (first | rw [HW3.out] | (at_builtin; refine append_int rfl (.tmp 31) (.tmp 33) rfl w.heap.size _ 1 [223] rfl HO3.out _ (k : Int) rfl HC3.out (by omega) HB3.out.size ?_))
     intro v' w4 hv hg
     have HB4 := Lh (own_belowI HB3.out HO3.out hg)
     have HV4 := Lh (owns_ints hv rfl)
     clear hv hg
     go_wp2_with fail
     go_ret2
     exact ⟨v', rfl, by rw [HS.out, HM.out, if_pos HG.out, HK.out]; exact HV4.out, HB4.out⟩
end Go.Proofs.YtffheegeaghfjaaGreatDoor

namespace Go.Proofs.YtffheegeaghfjaaGreatDoor
open Go.RowKit
theorem rtotal_any (n : Nat) (w : World) (hn : n <= 2000) :
    Calls Tryz.prog 54 #[.int .i64 (n : Int)] w fun e w' => e = .returned (.tuple #[.int .i64 ((totN (nbk n) : Nat) : Int), .int .i64 0]) /\ Below w.heap.size w w' := by
 have HS := Lh (rshape_any n w hn)
 have hb := nbk_bd n hn
 have hl := shp_len n
 have hs := shp_sum n
 have HT : Hid (sumN (shp n) + 32 * (shp n).length = totN (nbk n)) := Lh (by rw [shp_sum]; rfl)
 obtain ⟨l, hlq⟩ : ∃ l, shp n = l := ⟨_, rfl⟩
 rw [hlq] at HS hl HT hs
 have HSM : Hid (sumN l <= 1000000) := Lh (by omega)
 clear hlq hs
 go_enter Tryz.func54, Tryz.ntmps54
 go_wp2_with fail
 refine HS.out.mono ?_; rintro e w1 ⟨x, rfl, ⟨o, c, rfl, hr⟩, hb1⟩
 have h1 := hr.le
 have h2 := hr.cap
 simp at h1
 unfold maxLen at h2
 have HR := Lh hr
 have HB := Lh hb1
 rw [natI_length]
 clear hr hb1 HS
 go_wp2_with fail
 go_loopw [6, 16] (fun s i wr => TtAt l w1 s i wr) (fun _ i _ => l.length - (intOf i).toNat)
 case atStart => exact ⟨0, Nat.zero_le _, rfl, rfl, rfl⟩
 case round =>
  obtain ⟨k, hk, rfl, rfl, rfl⟩ := hrel
  by_cases hlt : k < l.length
  ·obtain ⟨b, off, rfl, _, hc⟩ := natI_cell HR.out k hlt
   have hst := sumN_take_succ l k hlt
   have hle := sumN_take_le l (k + 1)
   have hle2 := HSM.out
   have hk0 : (0 : Int) <= (k : Int) := by omega
   have hk1 : (k : Int) < (l.length : Int) := by omega
   obtain ⟨s, hs⟩ : ∃ s, sumN (l.take k) + 32 * k = s := ⟨_, rfl⟩
   rw [hs]
   have hs1 : s <= 2000000 := by omega
   have hx : l.getD k 0 <= 1000000 := by omega
   generalize l.getD k 0 = x at *
   have HX : Hid (sumN (l.take (k + 1)) + 32 * (k + 1) = s + (x + 32)) := Lh (by omega)
   clear hst hle hle2 hs
   go_wp2_with fail
   go_roundw
   case rel => exact ⟨k + 1, by omega, by go_num, by rw [HX.out]; go_num, rfl⟩
   case measure => simp [intOf]; omega
  ·obtain rfl : k = l.length := by omega
   rw [List.take_length]
   go_wp2_with fail
   go_ret2
   rw [HT.out]
   exact ⟨rfl, HB.out⟩
end Go.Proofs.YtffheegeaghfjaaGreatDoor

namespace Go.Proofs.YtffheegeaghfjaaGreatDoor
open Go.RowKit
structure PmAt (W : World) (g : Nat) (p : Pm15) : Prop where
 lt : g < W.heap.size
 c0 : W.cell? ⟨g, 0, none⟩ = some (.int .i64 p.sz)
 c1 : W.cell? ⟨g, 1, none⟩ = some (.int .i64 p.se)
 c2 : W.cell? ⟨g, 2, none⟩ = some (.int .i64 p.sp)
 c3 : W.cell? ⟨g, 3, none⟩ = some (.int .i64 p.pe)
 c4 : W.cell? ⟨g, 4, none⟩ = some (.int .i64 p.pa)
 c5 : W.cell? ⟨g, 5, none⟩ = some (.int .i64 p.re)
theorem PmAt.later {W W' : World} {g : Nat} {p : Pm15} (h : PmAt W g p) (hb : Below W.heap.size W W') : PmAt W' g p := by
 have k : ∀ i, W'.cell? ⟨g, i, none⟩ = W.cell? ⟨g, i, none⟩ := fun i => hb.cell (p := ⟨g, i, none⟩) h.lt
 exact ⟨Nat.lt_of_lt_of_le h.lt hb.size, (k 0).trans h.c0, (k 1).trans h.c1, (k 2).trans h.c2, (k 3).trans h.c3, (k 4).trans h.c4, (k 5).trans h.c5⟩
theorem PmAt.of {W : World} {g : Nat} {T : TypeId} {f : Nat × Nat} {p : Pm15} (h : W.heap[g]? = some (.cells (pmA p) T f)) : PmAt W g p := by
 have k : ∀ i, W.cell? ⟨g, i, none⟩ = (pmA p)[i]? := fun i => by unfold World.cell?; rw [h]; rfl
 exact ⟨(aE.1 h).1, k 0, k 1, k 2, k 3, k 4, k 5⟩
theorem PmAt.new (W : World) (T : TypeId) (p : Pm15) : PmAt (W.alloc (.cells (pmA p) T)) W.heap.size p := PmAt.of (World.alloc_heap_new W _)
theorem rchk15_any (p : Pm15) (hok : p.ok) (w : World) :
    Calls Tryz.prog 39 #[.agg (pmA p)] w fun e w' => e = .returned (.tuple #[txt15 (Da.fld15 (Da.bad15 p)), .int .i64 (Da.val15 p (Da.bad15 p)), .int .i64 ((Da.err15 (Da.bad15 p) : Nat) : Int)]) /\ Below w.heap.size w w' := by
 obtain ⟨g, hg⟩ : ∃ g, w.heap.size = g := ⟨_, rfl⟩
 obtain ⟨W1, hW1⟩ : ∃ W1, w.alloc (.cells (pmA p) 41) = W1 := ⟨_, rfl⟩
 have hP : PmAt W1 g p := by rw [<- hW1, <- hg]; exact PmAt.new _ _ _
 have hb1 : Below w.heap.size w W1 := by rw [<- hW1]; exact (Below.refl _ _).alloc (Nat.le_refl _) _
 have HW1 := Lh hW1
 have HG := Lh hg
 have HP := Lh hP
 have HB1 := Lh hb1
 have hc0 := hP.c0
 have hc1 := hP.c1
 have hc2 := hP.c2
 have hc3 := hP.c3
 have hc4 := hP.c4
 have hc5 := hP.c5
 have HOK := Lh hok
 obtain ⟨Q, hQ⟩ : ∃ Q, pmA p = Q := ⟨_, rfl⟩
 rw [hQ] at HW1 ⊢
 clear hP hb1 hW1 hg hok
 obtain ⟨sz, se, sp, pe, pa, re⟩ := p
 dsimp only at hc0 hc1 hc2 hc3 hc4 hc5
 obtain ⟨k, hk⟩ : ∃ k, Da.bad15 ⟨sz, se, sp, pe, pa, re⟩ = k := ⟨_, rfl⟩
 rw [hk]
 unfold Da.bad15 at hk
 dsimp only at hk
 by_cases l1 : sz < 0
 ·rw [if_pos (by omega)] at hk
  subst hk
  have d1sz : decide (sz < 0) = true := decide_eq_true (by omega)
  go_enter Tryz.func39, Tryz.ntmps39
  go_upto_region 1 with fail
  rw [HW1.out, HG.out]
  go_upto_region 2 with fail
  go_quiet (fail)
  go_wp2_with fail
  refine bodyPost_ret (results_tmp3 rfl _ _ _) rfl ?_
  first | exact ⟨rfl, Ks HB1.out (Kit.dn' _ _)⟩ | exact ⟨rfl, HB1.out.drew⟩
 by_cases u1 : 2000 < sz
 ·rw [if_pos (by omega)] at hk
  subst hk
  have d1sz : decide (sz < 0) = false := decide_eq_false (by omega)
  have d2sz : decide (sz > 2000) = true := decide_eq_true (by omega)
  have d3sz : decide (2000 < sz) = true := decide_eq_true (by omega)
  go_enter Tryz.func39, Tryz.ntmps39
  go_upto_region 1 with fail
  rw [HW1.out, HG.out]
  go_upto_region 2 with fail
  go_quiet (fail)
  go_wp2_with fail
  refine bodyPost_ret (results_tmp3 rfl _ _ _) rfl ?_
  first | exact ⟨rfl, Ks HB1.out (Kit.dn' _ _)⟩ | exact ⟨rfl, HB1.out.drew⟩
 have d1sz : decide (sz < 0) = false := decide_eq_false (by omega)
 have d2sz : decide (sz > 2000) = false := decide_eq_false (by omega)
 have d3sz : decide (2000 < sz) = false := decide_eq_false (by omega)
 rw [if_neg (by omega)] at hk
 by_cases l2 : se < 0
 ·rw [if_pos (by omega)] at hk
  subst hk
  have d1se : decide (se < 0) = true := decide_eq_true (by omega)
  go_enter Tryz.func39, Tryz.ntmps39
  go_upto_region 1 with fail
  rw [HW1.out, HG.out]
  go_upto_region 4 with fail
  go_quiet (fail)
  go_wp2_with fail
  refine bodyPost_ret (results_tmp3 rfl _ _ _) rfl ?_
  first | exact ⟨rfl, Ks HB1.out (Kit.dn' _ _)⟩ | exact ⟨rfl, HB1.out.drew⟩
 by_cases u2 : 8 < se
 ·rw [if_pos (by omega)] at hk
  subst hk
  have d1se : decide (se < 0) = false := decide_eq_false (by omega)
  have d2se : decide (se > 8) = true := decide_eq_true (by omega)
  have d3se : decide (8 < se) = true := decide_eq_true (by omega)
  go_enter Tryz.func39, Tryz.ntmps39
  go_upto_region 1 with fail
  rw [HW1.out, HG.out]
  go_upto_region 4 with fail
  go_quiet (fail)
  go_wp2_with fail
  refine bodyPost_ret (results_tmp3 rfl _ _ _) rfl ?_
  first | exact ⟨rfl, Ks HB1.out (Kit.dn' _ _)⟩ | exact ⟨rfl, HB1.out.drew⟩
 have d1se : decide (se < 0) = false := decide_eq_false (by omega)
 have d2se : decide (se > 8) = false := decide_eq_false (by omega)
 have d3se : decide (8 < se) = false := decide_eq_false (by omega)
 rw [if_neg (by omega)] at hk
 have TO := rtotal_any sz.toNat W1 (by omega)
 rw [show ((sz.toNat : Nat) : Int) = sz by omega, show totN (nbk sz.toNat) = Da.tot15 sz from rfl] at TO
 have hbd : Da.tot15 sz <= 100000 := by
  have := nbk_bd sz.toNat (by omega)
  unfold Da.tot15 totN shpN
  split <;> simp <;> omega
 obtain ⟨T, hT⟩ : ∃ T, Da.tot15 sz = T := ⟨_, rfl⟩
 rw [hT] at TO hbd
 simp only [hT] at hk
 have HTO := Lh TO
 have hw0 : IntKind.i64.wrap ((T : Int) + se) = (T : Int) + se := by rw [IntKind.wrap_i64]; omega
 clear TO hT
 by_cases l3 : sp < 1
 ·rw [if_pos (by omega)] at hk
  subst hk
  have d1sp : decide (sp < 1) = true := decide_eq_true (by omega)
  go_enter Tryz.func39, Tryz.ntmps39
  go_upto_region 1 with fail
  rw [HW1.out, HG.out]
  go_wp2_with fail
  refine HTO.out.mono ?_
  rintro e W2 ⟨rfl, hb2⟩
  have hP2 := HP.out.later hb2
  have HB2 := Lh (Ks HB1.out hb2)
  have hc0 := hP2.c0
  have hc1 := hP2.c1
  have hc2 := hP2.c2
  have hc3 := hP2.c3
  have hc4 := hP2.c4
  have hc5 := hP2.c5
  clear hP2 hb2
  go_upto_region 7 with fail
  go_quiet (fail)
  go_wp2_with fail
  refine bodyPost_ret (results_tmp3 rfl _ _ _) rfl ?_
  first | exact ⟨rfl, Ks HB2.out (Kit.dn' _ _)⟩ | exact ⟨rfl, HB2.out.drew⟩
 by_cases u3 : 12 < sp
 ·rw [if_pos (by omega)] at hk
  subst hk
  have d1sp : decide (sp < 1) = false := decide_eq_false (by omega)
  have d2sp : decide (sp > 12) = true := decide_eq_true (by omega)
  have d3sp : decide (12 < sp) = true := decide_eq_true (by omega)
  go_enter Tryz.func39, Tryz.ntmps39
  go_upto_region 1 with fail
  rw [HW1.out, HG.out]
  go_wp2_with fail
  refine HTO.out.mono ?_
  rintro e W2 ⟨rfl, hb2⟩
  have hP2 := HP.out.later hb2
  have HB2 := Lh (Ks HB1.out hb2)
  have hc0 := hP2.c0
  have hc1 := hP2.c1
  have hc2 := hP2.c2
  have hc3 := hP2.c3
  have hc4 := hP2.c4
  have hc5 := hP2.c5
  clear hP2 hb2
  go_upto_region 7 with fail
  go_quiet (fail)
  go_wp2_with fail
  refine bodyPost_ret (results_tmp3 rfl _ _ _) rfl ?_
  first | exact ⟨rfl, Ks HB2.out (Kit.dn' _ _)⟩ | exact ⟨rfl, HB2.out.drew⟩
 have d1sp : decide (sp < 1) = false := decide_eq_false (by omega)
 have d2sp : decide (sp > 12) = false := decide_eq_false (by omega)
 have d3sp : decide (12 < sp) = false := decide_eq_false (by omega)
 by_cases t3 : (T : Int) + se < sp
 ·rw [if_pos (by omega)] at hk
  subst hk
  have d4 : decide (sp > (T : Int) + se) = true := decide_eq_true (by omega)
  have d5 : decide ((T : Int) + se < sp) = true := decide_eq_true (by omega)
  go_enter Tryz.func39, Tryz.ntmps39
  go_upto_region 1 with fail
  rw [HW1.out, HG.out]
  go_wp2_with fail
  refine HTO.out.mono ?_
  rintro e W2 ⟨rfl, hb2⟩
  have hP2 := HP.out.later hb2
  have HB2 := Lh (Ks HB1.out hb2)
  have hc0 := hP2.c0
  have hc1 := hP2.c1
  have hc2 := hP2.c2
  have hc3 := hP2.c3
  have hc4 := hP2.c4
  have hc5 := hP2.c5
  clear hP2 hb2
  go_upto_region 7 with fail
  go_quiet (fail)
  go_wp2_with fail
  refine bodyPost_ret (results_tmp3 rfl _ _ _) rfl ?_
  first | exact ⟨rfl, Ks HB2.out (Kit.dn' _ _)⟩ | exact ⟨rfl, HB2.out.drew⟩
 have d4 : decide (sp > (T : Int) + se) = false := decide_eq_false (by omega)
 have d5 : decide ((T : Int) + se < sp) = false := decide_eq_false (by omega)
 rw [if_neg (by omega)] at hk
 by_cases l4 : pe < 1
 ·rw [if_pos (by omega)] at hk
  subst hk
  have d1pe : decide (pe < 1) = true := decide_eq_true (by omega)
  go_enter Tryz.func39, Tryz.ntmps39
  go_upto_region 1 with fail
  rw [HW1.out, HG.out]
  go_wp2_with fail
  refine HTO.out.mono ?_
  rintro e W2 ⟨rfl, hb2⟩
  have hP2 := HP.out.later hb2
  have HB2 := Lh (Ks HB1.out hb2)
  have hc0 := hP2.c0
  have hc1 := hP2.c1
  have hc2 := hP2.c2
  have hc3 := hP2.c3
  have hc4 := hP2.c4
  have hc5 := hP2.c5
  clear hP2 hb2
  go_upto_region 9 with fail
  go_quiet (fail)
  go_wp2_with fail
  refine bodyPost_ret (results_tmp3 rfl _ _ _) rfl ?_
  first | exact ⟨rfl, Ks HB2.out (Kit.dn' _ _)⟩ | exact ⟨rfl, HB2.out.drew⟩
 by_cases u4 : 10000 < pe
 ·rw [if_pos (by omega)] at hk
  subst hk
  have d1pe : decide (pe < 1) = false := decide_eq_false (by omega)
  have d2pe : decide (pe > 10000) = true := decide_eq_true (by omega)
  have d3pe : decide (10000 < pe) = true := decide_eq_true (by omega)
  go_enter Tryz.func39, Tryz.ntmps39
  go_upto_region 1 with fail
  rw [HW1.out, HG.out]
  go_wp2_with fail
  refine HTO.out.mono ?_
  rintro e W2 ⟨rfl, hb2⟩
  have hP2 := HP.out.later hb2
  have HB2 := Lh (Ks HB1.out hb2)
  have hc0 := hP2.c0
  have hc1 := hP2.c1
  have hc2 := hP2.c2
  have hc3 := hP2.c3
  have hc4 := hP2.c4
  have hc5 := hP2.c5
  clear hP2 hb2
  go_upto_region 9 with fail
  go_quiet (fail)
  go_wp2_with fail
  refine bodyPost_ret (results_tmp3 rfl _ _ _) rfl ?_
  first | exact ⟨rfl, Ks HB2.out (Kit.dn' _ _)⟩ | exact ⟨rfl, HB2.out.drew⟩
 have d1pe : decide (pe < 1) = false := decide_eq_false (by omega)
 have d2pe : decide (pe > 10000) = false := decide_eq_false (by omega)
 have d3pe : decide (10000 < pe) = false := decide_eq_false (by omega)
 rw [if_neg (by omega)] at hk
 by_cases l5 : pa < 1
 ·rw [if_pos (by omega)] at hk
  subst hk
  have d1pa : decide (pa < 1) = true := decide_eq_true (by omega)
  go_enter Tryz.func39, Tryz.ntmps39
  go_upto_region 1 with fail
  rw [HW1.out, HG.out]
  go_wp2_with fail
  refine HTO.out.mono ?_
  rintro e W2 ⟨rfl, hb2⟩
  have hP2 := HP.out.later hb2
  have HB2 := Lh (Ks HB1.out hb2)
  have hc0 := hP2.c0
  have hc1 := hP2.c1
  have hc2 := hP2.c2
  have hc3 := hP2.c3
  have hc4 := hP2.c4
  have hc5 := hP2.c5
  clear hP2 hb2
  go_upto_region 11 with fail
  go_quiet (fail)
  go_wp2_with fail
  refine bodyPost_ret (results_tmp3 rfl _ _ _) rfl ?_
  first | exact ⟨rfl, Ks HB2.out (Kit.dn' _ _)⟩ | exact ⟨rfl, HB2.out.drew⟩
 by_cases u5 : pe < pa
 ·rw [if_pos (by omega)] at hk
  subst hk
  have d1pa : decide (pa < 1) = false := decide_eq_false (by omega)
  have d2pa : decide (pa > pe) = true := decide_eq_true (by omega)
  have d3pa : decide (pe < pa) = true := decide_eq_true (by omega)
  go_enter Tryz.func39, Tryz.ntmps39
  go_upto_region 1 with fail
  rw [HW1.out, HG.out]
  go_wp2_with fail
  refine HTO.out.mono ?_
  rintro e W2 ⟨rfl, hb2⟩
  have hP2 := HP.out.later hb2
  have HB2 := Lh (Ks HB1.out hb2)
  have hc0 := hP2.c0
  have hc1 := hP2.c1
  have hc2 := hP2.c2
  have hc3 := hP2.c3
  have hc4 := hP2.c4
  have hc5 := hP2.c5
  clear hP2 hb2
  go_upto_region 11 with fail
  go_quiet (fail)
  go_wp2_with fail
  refine bodyPost_ret (results_tmp3 rfl _ _ _) rfl ?_
  first | exact ⟨rfl, Ks HB2.out (Kit.dn' _ _)⟩ | exact ⟨rfl, HB2.out.drew⟩
 have d1pa : decide (pa < 1) = false := decide_eq_false (by omega)
 have d2pa : decide (pa > pe) = false := decide_eq_false (by omega)
 have d3pa : decide (pe < pa) = false := decide_eq_false (by omega)
 rw [if_neg (by omega)] at hk
 by_cases l6 : re < 0
 ·rw [if_pos (by omega)] at hk
  subst hk
  have d1re : decide (re < 0) = true := decide_eq_true (by omega)
  go_enter Tryz.func39, Tryz.ntmps39
  go_upto_region 1 with fail
  rw [HW1.out, HG.out]
  go_wp2_with fail
  refine HTO.out.mono ?_
  rintro e W2 ⟨rfl, hb2⟩
  have hP2 := HP.out.later hb2
  have HB2 := Lh (Ks HB1.out hb2)
  have hc0 := hP2.c0
  have hc1 := hP2.c1
  have hc2 := hP2.c2
  have hc3 := hP2.c3
  have hc4 := hP2.c4
  have hc5 := hP2.c5
  clear hP2 hb2
  go_upto_region 13 with fail
  go_quiet (fail)
  go_wp2_with fail
  refine bodyPost_ret (results_tmp3 rfl _ _ _) rfl ?_
  first | exact ⟨rfl, Ks HB2.out (Kit.dn' _ _)⟩ | exact ⟨rfl, HB2.out.drew⟩
 by_cases u6 : 5 < re
 ·rw [if_pos (by omega)] at hk
  subst hk
  have d1re : decide (re < 0) = false := decide_eq_false (by omega)
  have d2re : decide (re > 5) = true := decide_eq_true (by omega)
  have d3re : decide (5 < re) = true := decide_eq_true (by omega)
  go_enter Tryz.func39, Tryz.ntmps39
  go_upto_region 1 with fail
  rw [HW1.out, HG.out]
  go_wp2_with fail
  refine HTO.out.mono ?_
  rintro e W2 ⟨rfl, hb2⟩
  have hP2 := HP.out.later hb2
  have HB2 := Lh (Ks HB1.out hb2)
  have hc0 := hP2.c0
  have hc1 := hP2.c1
  have hc2 := hP2.c2
  have hc3 := hP2.c3
  have hc4 := hP2.c4
  have hc5 := hP2.c5
  clear hP2 hb2
  go_upto_region 13 with fail
  go_quiet (fail)
  go_wp2_with fail
  refine bodyPost_ret (results_tmp3 rfl _ _ _) rfl ?_
  first | exact ⟨rfl, Ks HB2.out (Kit.dn' _ _)⟩ | exact ⟨rfl, HB2.out.drew⟩
 have d1re : decide (re < 0) = false := decide_eq_false (by omega)
 have d2re : decide (re > 5) = false := decide_eq_false (by omega)
 have d3re : decide (5 < re) = false := decide_eq_false (by omega)
 rw [if_neg (by omega)] at hk
 subst hk
 go_enter Tryz.func39, Tryz.ntmps39
 go_upto_region 1 with fail
 rw [HW1.out, HG.out]
 go_wp2_with fail
 refine HTO.out.mono ?_
 rintro e W2 ⟨rfl, hb2⟩
 have hP2 := HP.out.later hb2
 have HB2 := Lh (Ks HB1.out hb2)
 have hc0 := hP2.c0
 have hc1 := hP2.c1
 have hc2 := hP2.c2
 have hc3 := hP2.c3
 have hc4 := hP2.c4
 have hc5 := hP2.c5
 clear hP2 hb2
 go_wp2_with fail
 refine bodyPost_ret (results_tmp3 rfl _ _ _) rfl ?_
 exact ⟨rfl, HB2.out⟩
theorem pm15_info : (Tryz.prog.info? 41).map (·.size) = some 6 := by kernel_rfl
theorem err15_cases {k : Nat} (h : k ≠ 0) : Da.err15 k = 8 ∨ Da.err15 k = 18 ∨ Da.err15 k = 1 := by
 match k, h with
 | 1, _ => exact .inl rfl
 | 2, _ => exact .inr (.inl rfl)
 | (n+3), _ => exact .inr (.inr rfl)
theorem wrv_num (U : Er.UnwrapOk) (A : Nat -> Addr) (p : Pm15) (v : Value) (w : World) (hE : Er.Errs w A) (h : WrV A p w v) : Calls Tryz.prog 12 #[v] w fun e w' => e = .returned (.int .i64 ((Da.err15 (Da.bad15 p) : Nat) : Int)) /\ Below w.heap.size w w' := by
 rcases h with ⟨h0, rfl⟩ | ⟨h0, b, rfl, hw⟩
 ·rw [h0]
  exact (Er.num_nil w).mono fun e w' h => ⟨h.1, h.2 ▸ Below.refl _ _⟩
 ·have hc := hw.cell
  unfold sn15 at hc
  rcases err15_cases h0 with e | e | e <;> rw [e] at hc ⊢
  ·exact Er.num_wrong U A 7 (by decide) b w hE hc
  ·exact Er.num_wrong U A 17 (by decide) b w hE hc
  ·exact Er.num_wrong U A 0 (by decide) b w hE hc
end Go.Proofs.YtffheegeaghfjaaGreatDoor

namespace Go.Proofs.YtffheegeaghfjaaGreatDoor
open Go.RowKit
theorem sev_num (U : Er.UnwrapOk) (A : Nat -> Addr) (p : Pm15) (k : Nat) (hk : k <= 20) (v : Value) (w : World) (hE : Er.Errs w A) (h : SeV A p k w v) :
    Calls Tryz.prog 12 #[v] w fun e w' => e = .returned (.int .i64 ((Da.sen16 p k : Nat) : Int)) /\ Below w.heap.size w w' := by
 unfold Da.sen16
 rcases h with ⟨h0, h⟩ | ⟨h0, rfl⟩
 ·rw [if_neg h0]
  exact wrv_num U A p v w hE h
 ·rw [if_pos h0]
  exact errV_num A k hk w hE
end Go.Proofs.YtffheegeaghfjaaGreatDoor

namespace Go.Proofs.YtffheegeaghfjaaGreatDoor
open Go.RowKit
theorem rblk_of (Z : Array Value) (hZ : Z = (bytesV (List.replicate 32 0)).toArray) (hzs : ∀ w, Sem.run Tryz.prog (zeroValue 31) w = .ok (.agg Z) w)
    (k : List UInt8) (o : Option Addr) (c : Nat) (n : Int) (w : World) (hK : RowIs w o (bytesV k) c) (hV : Rds w) (hkl : k.length <= 90000) :
    Calls Tryz.prog 42 #[.slice o k.length c, .int .i64 n] w fun e w' => ∃ x, e = .returned (.tuple #[x, .int .i64 (Da.rb n : Nat)]) /\ RowV (Da.kres (Da.rb n) (Da.sb k n)) x w' /\ Below w.heap.size w w' := by
 by_cases hr : Da.inR n = true
 ·have hrr : Da.rb n = 0 := by unfold Da.rb; rw [if_pos hr]
  have hn : 0 <= n /\ n <= 1099511627776 := Da.rb_zero hrr
  have hd1 : decide (n < 0) = false := by simp; omega
  have hd2 : decide (n > 1099511627776) = false := by simp; omega
  have hsb : Da.kres (Da.rb n) (Da.sb k n) = Da.sb k n := by rw [hrr]; rfl
  rw [hrr] at hsb ⊢
  rw [hsb]
  have HK := Lh hK
  have HV := Lh hV
  obtain ⟨h, hh⟩ : ∃ h, Da.hmac k (Da.num8 n) = h := ⟨_, rfl⟩
  have hhl : h.length = 32 := by rw [<- hh]; exact Da.hmac_length _ _
  obtain ⟨E, hE⟩ : ∃ E, (bytesV h).toArray = E := ⟨_, rfl⟩
  have HDS : Hid ((Tryz.prog.info? 31).map (·.size) = some E.size) := Lh (by rw [d32_info, <- hE]; simp [hhl])
  have HDO : Hid (E.all (·.oneCell') = true) := Lh (by rw [<- hE]; exact all_oneCell_toArray (bytesV_one _))
  have HDZ : Hid (Z.size = E.size) := Lh (by rw [hZ, <- hE]; simp [hhl])
  have HE := Lh hE
  have HHL := Lh hhl
  have HH := Lh hh
  have HSB : Hid (Da.sb k n = h.take 8) := Lh (by unfold Da.sb; rw [hh])
  clear hK hV hh hhl hE hZ hr hrr hsb hn
  go_enter Tryz.func42, Tryz.ntmps42
  go_wp2_with fail
  refine (rnum9_any n w).mono ?_
  rintro e W2 ⟨g2, rfl, hr2, hb2⟩
  have RM := Lh (rmac_any k (Da.num8 n) o (some ⟨g2, 0, none⟩) c 8 W2 (HK.out.later hb2) hr2 (HV.out.later hb2) hkl (by rw [Da.num8_length]; decide))
  rw [HH.out, HE.out, Da.num8_length] at RM
  have HB2 := Lh hb2
  clear hb2 hr2
  go_wp2_with fail
  refine RM.out.mono ?_
  rintro e X4 ⟨rfl, hb4⟩
  clear RM
  obtain ⟨gD, hgD⟩ : ∃ gD, X4.heap.size = gD := ⟨_, rfl⟩
  obtain ⟨X5, hX5⟩ : ∃ X5, X4.alloc (.cells Z 31) = X5 := ⟨_, rfl⟩
  obtain ⟨X6, hX6⟩ : ∃ X6, X5.setRow gD E = X6 := ⟨_, rfl⟩
  have hA5 : Arr X5 gD 31 Z.toList := by rw [<- hX5, <- hgD]; exact Arr.made _ _ _
  have hA6 : Arr X6 gD 31 (bytesV h) := by rw [<- hX6, <- HE.out]; exact setRow_heap _ _ _ _ _ _ hA5
  have hb6 : Below X4.heap.size X4 X6 := by rw [<- hX6, <- hX5]; exact ((Below.refl _ _).alloc (Nat.le_refl _) _).trans (below_row (Nat.le_of_eq hgD))
  have hB6 := Ks (Ks HB2.out hb4) hb6
  obtain ⟨g6, hg6⟩ : ∃ g6, X6.heap.size = g6 := ⟨_, rfl⟩
  obtain ⟨X7, hX7⟩ : ∃ X7, X6.alloc (.cells #[] 5) = X7 := ⟨_, rfl⟩
  have hb7 : Below X6.heap.size X6 X7 := by rw [<- hX7]; exact (Below.refl _ _).alloc (Nat.le_refl _) _
  have HO7 : Hid (X7.ownsRow w.heap.size 5 1 (.slice (some ⟨g6, 0, none⟩) 0 0) 0 (bytesV [])) := Lh (by rw [<- hX7, <- hg6]; exact World.ownsRow_lit X6 #[] 0 hB6.size (Nat.zero_le _) rfl)
  have hr := ((hA6.later hb7 hA6.lt).row (by rw [HHL.out]; unfold maxLen; decide)).pre 8 (by rw [HHL.out]; decide)
  rw [HHL.out] at hr
  have HR7 := Lh hr
  have HTL : Hid (8 = (h.take 8).length) := Lh (by rw [List.length_take, HHL.out]; rfl)
  have HB7 := Lh (Ks hB6 hb7)
  have HA5 : Hid (X5.heap[gD]? = some (.cells Z 31 (0, 0))) := Lh hA5
  have HX5 := Lh hX5
  have HX6 := Lh hX6
  have HX7 := Lh hX7
  have HGD := Lh hgD
  have HG6 := Lh hg6
  clear hgD hg6 hX5 hX6 hX7 hA5 hA6 hb6 hB6 hb4 hb7 hr
  go_wp2_with (first | rw [HX5.out, HGD.out] | refine wpList_store_row rfl 31 (.tmp 6) (.tmp 16) rfl gD E rfl rfl 31 Z HA5.out HDS.out HDZ.out HDO.out ?_ | rw [HX6.out] | rw [HX7.out, HG6.out] | (at_builtin; refine append_row rfl (.tmp 17) (.tmp 18) rfl w.heap.size _ 0 [] rfl HO7.out (some ⟨gD, 0, none⟩) 8 32 (h.take 8) rfl HTL.out HR7.out (by omega) HB7.out.size ?_))
  intro v8 X8 hv hg
  have HB8 := Lh (own_below (n := 0) HB7.out HO7.out hg)
  have HV8 : Hid (RowV (h.take 8) v8 X8) := Lh (owns_rv hv (by rw [<- HTL.out]))
  clear hv hg
  go_wp2_with fail
  refine bodyPost_ret (results_tmp2 rfl _ _ _) rfl ?_
  exact ⟨v8, rfl, by rw [HSB.out]; exact HV8.out, HB8.out⟩
 ·have hrr : Da.rb n = 1 := by unfold Da.rb; rw [if_neg hr]
  have hsb : Da.kres (Da.rb n) (Da.sb k n) = [] := by rw [hrr]; rfl
  rw [hrr] at hsb ⊢
  rw [hsb]
  have hn : n < 0 ∨ 1099511627776 < n := by
   unfold Da.inR at hr
   simp at hr
   omega
  clear hrr hsb hr hK hV
  rcases hn with hn | hn
  ·have hd1 : decide (n < 0) = true := by simp; omega
   go_enter Tryz.func42, Tryz.ntmps42
   go_wp2_with fail
   refine bodyPost_ret (results_tmp2 rfl _ _ _) rfl ?_
   exact ⟨_, rfl, RowV.nil _, Below.refl _ _⟩
  ·have hd1 : decide (n < 0) = false := by simp; omega
   have hd2 : decide (n > 1099511627776) = true := by simp; omega
   go_enter Tryz.func42, Tryz.ntmps42
   go_wp2_with fail
   refine bodyPost_ret (results_tmp2 rfl _ _ _) rfl ?_
   exact ⟨_, rfl, RowV.nil _, Below.refl _ _⟩
theorem rblk_any (k : List UInt8) (o : Option Addr) (c : Nat) (n : Int) (w : World) (hK : RowIs w o (bytesV k) c) (hV : Rds w) (hkl : k.length <= 90000) :
    Calls Tryz.prog 42 #[.slice o k.length c, .int .i64 n] w fun e w' => ∃ x, e = .returned (.tuple #[x, .int .i64 (Da.rb n : Nat)]) /\ RowV (Da.kres (Da.rb n) (Da.sb k n)) x w' /\ Below w.heap.size w w' :=
 rblk_of _ rfl d32_zero k o c n w hK hV hkl
def RbAt (n : Nat) (w : World) (i a : Value) (wr : World) : Prop :=
 ∃ m q : Nat, m + q = 21 /\ m <= 10 /\ i = .int .i64 (m : Int) /\ a = .int .i64 ((4 ^ m : Nat) : Int) /\ Da.seekW n q m = Da.bw n /\ wr = w
theorem rbits_any (n : Nat) (hn : n <= 1048576) (w : World) : Calls Tryz.prog 84 #[.int .i64 (n : Int)] w fun e w' => e = .returned (.int .i64 (Da.bw n : Nat)) /\ w' = w := by
 go_enter Tryz.func84, Tryz.ntmps84
 go_wp2_with fail
 go_loopw [3, 4] (fun i a wr => RbAt n w i a wr) (fun i _ _ => 21 - (intOf i).toNat)
 case atStart => exact ⟨1, 20, rfl, by decide, rfl, rfl, rfl, rfl⟩
 case round =>
  obtain ⟨m, q, hmq, h10, rfl, rfl, hs, rfl⟩ := hrel
  have hm10 : 4 ^ m < n -> m < 10 := fun h => by
   by_cases e : m = 10
   ·subst e; omega
   ·omega
  have hgo := fun h => Da.seekW_go n q m h (by rw [hmq]; omega)
  have hst := Da.seekW_stop n q m
  have HP : Hid (((4 ^ (m + 1) : Nat) : Int) = ((4 ^ m : Nat) : Int) * 4) := Lh (by rw [Nat.pow_succ]; simp)
  have hb := four_bd h10
  obtain ⟨F, hF⟩ : ∃ F, 4 ^ m = F := ⟨_, rfl⟩
  rw [hF] at hm10 hgo hst HP hb ⊢
  have HS := Lh hs
  clear hs hF
  by_cases hlt : F < n
  ·have hd : decide ((F : Int) < (n : Int)) = true := by simp; omega
   have h9 := hm10 hlt
   have HG := Lh (hgo hlt)
   clear hgo hst hm10
   go_wp2_with fail
   exact ⟨⟨m + 1, q - 1, by have := HG.out.1; omega, by omega, rfl, by rw [HP.out], by rw [<- HG.out.2]; exact HS.out, rfl⟩, by simp [intOf]; omega⟩
  ·have hd : decide ((F : Int) < (n : Int)) = false := by simp; omega
   have HST := Lh (hst hlt)
   clear hgo hst hm10
   go_wp2_with fail
   go_ret
   exact ⟨by rw [<- HS.out, HST.out]; rfl, rfl⟩
theorem own_later11 {W W' : World} {n : Nat} {v : Value} {xs : List Value} {m : Nat} (h : W.ownsRow n 5 1 v m xs) (hb : Below W.heap.size W W') : W'.ownsRow n 5 1 v m xs := by
 obtain ⟨h1, h2 | ⟨g, cap, cur, e, hbs, hg, hr⟩⟩ := h
 ·exact ⟨h1, .inl h2⟩
 ·exact ⟨h1, .inr ⟨g, cap, cur, e, hbs, by rw [hb.block g (aE.1 hg).1]; exact hg, hr⟩⟩
def SzAt (m : Nat) (w : World) (s i : Value) (wr : World) : Prop :=
 ∃ j : Nat, j <= m /\ i = .int .i64 (j : Int) /\ s = .int .i64 ((2 ^ j : Nat) : Int) /\ wr = w
def NbAt (l : List UInt8) (w : World) (s i : Value) (wr : World) : Prop :=
 ∃ j : Nat, j <= 8 /\ i = .int .i64 j /\ s = .int .u64 (Da.nbe (l.take j) : Nat) /\ Below w.heap.size w wr
theorem rstep_of (Z : Array Value) (hZ : Z = (bytesV (List.replicate 32 0)).toArray) (hzs : ∀ w, Sem.run Tryz.prog (zeroValue 31) w = .ok (.agg Z) w)
    (k : List UInt8) (o : Option Addr) (c : Nat) (m : Nat) (h10 : m <= 10) (x : Nat) (hx : x < 4 ^ m) (w : World) (hK : RowIs w o (bytesV k) c) (hV : Rds w) (hkl : k.length <= 90000) :
    Calls Tryz.prog 85 #[.slice o k.length c, .int .i64 (m : Int), .int .i64 (x : Int)] w fun e w' => e = .returned (.int .i64 ((Da.son k m x : Nat) : Int)) /\ Below w.heap.size w w' := by
 have HK := Lh hK
 have HV := Lh hV
 have HZ := Lh hZ
 have HKL := Lh hkl
 obtain ⟨L, hL⟩ : ∃ L, k.length = L := ⟨_, rfl⟩
 have HL := Lh hL
 rw [hL]
 have HX4 := Lh hx
 have HQ := Lh (Da.cut2_hv hx)
 have HX : Hid (Da.son k m x = (Da.rnds k m 4 (Da.cut2 m x)).1 * 2 ^ m + (Da.rnds k m 4 (Da.cut2 m x)).2) := Lh rfl
 clear hK hV hkl hL hx hZ
 go_enter Tryz.func85, Tryz.ntmps85
 go_wp2_with fail
 go_loopw [7, 8] (fun s i wr => SzAt m w s i wr) (fun _ i _ => m - (intOf i).toNat)
 case atStart => exact ⟨0, Nat.zero_le _, rfl, rfl, rfl⟩
 case round =>
  obtain ⟨j, hj, rfl, rfl, rfl⟩ := hrel
  by_cases hlt : j < m
  ·have HP : Hid (((2 ^ (j + 1) : Nat) : Int) = ((2 ^ j : Nat) : Int) * 2) := Lh (by rw [Nat.pow_succ]; simp)
   have hb := two_bd (m := j) (by omega)
   obtain ⟨F, hF⟩ : ∃ F, 2 ^ j = F := ⟨_, rfl⟩
   rw [hF] at HP hb ⊢
   clear hF
   go_wp2_with fail
   exact ⟨⟨j + 1, by omega, rfl, by rw [HP.out], rfl⟩, by simp [intOf]; omega⟩
  ·obtain rfl : j = m := by omega
   have hb := two_bd h10
   have hp := Nat.two_pow_pos j
   have HX0 : Hid (∀ wr', Below wr.heap.size wr wr' -> OnAt k j (Da.cut2 j x) wr (.int .i64 ((x / 2 ^ j : Nat) : Int)) (.int .i64 ((x % 2 ^ j : Nat) : Int)) (.int .i64 0) wr') := Lh (fun wr' hb => ⟨0, by omega, rfl, rfl, rfl, hb⟩)
   obtain ⟨S, hS⟩ : ∃ S, 2 ^ j = S := ⟨_, rfl⟩
   have HS := Lh hS
   rw [hS] at hb hp HX0 ⊢
   have hq0 : ((S : Int) == 0) = false := beq_false_of_ne (by omega)
   have h1 : (x : Int).tdiv (S : Int) = ((x / S : Nat) : Int) := by rw [Int.tdiv_eq_ediv_of_nonneg (by omega)]; rfl
   have h2 : (x : Int).tmod (S : Int) = ((x % S : Nat) : Int) := by rw [Int.tmod_eq_emod_of_nonneg (by omega)]; rfl
   have hxb : x < 1048576 := Nat.lt_of_lt_of_le HX4.out (four_bd h10)
   have h3 : x / S < 1048576 := Nat.lt_of_le_of_lt (Nat.div_le_self _ _) hxb
   have h4 : x % S < 1048576 := Nat.lt_of_le_of_lt (Nat.mod_le _ _) hxb
   obtain ⟨R1, hR1⟩ : ∃ R, x / S = R := ⟨_, rfl⟩
   obtain ⟨R2, hR2⟩ : ∃ R, x % S = R := ⟨_, rfl⟩
   rw [hR1] at h1 h3 HX0
   rw [hR2] at h2 h4 HX0
   clear hS hR1 hR2
   go_wp2_with fail
   go_quiet (fail)
   go_wp2_with fail
   have HB0 : Hid (Below wr.heap.size wr (wr.drewN nq)) := Lh (Kit.dn' wr nq)
   have HBw : Hid (Below wr.heap.size wr wr) := Lh (Below.refl _ _)
   clear h1 h2 h3 h4 hxb
   go_loopw [9, 10, 11] (fun a b i wr' => OnAt k j (Da.cut2 j x) wr a b i wr') (fun _ _ i _ => 4 - (intOf i).toNat)
   case atStart => exact HX0.out _ HB0.out
   case round =>
    rename World => X0
    obtain ⟨r, hr, rfl, rfl, rfl, hB⟩ := hrel
    have hv := HQ.out.rnds k r
    have HN : Hid (Da.rnds k j (r + 1) (Da.cut2 j x) = ((Da.rnds k j r (Da.cut2 j x)).2, (Da.rnds k j r (Da.cut2 j x)).1 ^^^ Da.mx k j r (Da.rnds k j r (Da.cut2 j x)).2)) := Lh rfl
    have hXJ : r = 4 -> Da.son k j x = (Da.rnds k j r (Da.cut2 j x)).1 * S + (Da.rnds k j r (Da.cut2 j x)).2 := fun h => by rw [h, <- HS.out]; exact HX.out
    obtain ⟨⟨a, d⟩, hac⟩ : ∃ u, Da.rnds k j r (Da.cut2 j x) = u := ⟨_, rfl⟩
    rw [hac] at hv HN hXJ ⊢
    obtain ⟨ha, hc⟩ := hv
    dsimp only at ha hc HN hXJ ⊢
    rw [HS.out] at ha hc
    have HB := Lh hB
    clear hB hac HX0
    by_cases hlt : r < 4
    ·have hd1 : decide ((r : Int) < 4) = true := by simp; omega
     clear hXJ
     have hr8 : (UInt8.ofNat r).toNat = r := by rw [UInt8.toNat_ofNat']; omega
     obtain ⟨X1, hX1⟩ : ∃ X1, X0.alloc (.cells #[.int .u8 (r : Int)] 5) = X1 := ⟨_, rfl⟩
     obtain ⟨g1, hg1⟩ : ∃ g1, X0.heap.size = g1 := ⟨_, rfl⟩
     have hb1 : Below X0.heap.size X0 X1 := by rw [<- hX1]; exact (Below.refl _ _).alloc (Nat.le_refl _) _
     have HO1 : Hid (X1.ownsRow X0.heap.size 5 1 (.slice (some ⟨g1, 0, none⟩) 1 1) 1 (bytesV [UInt8.ofNat r])) := Lh (by
      have e : bytesV [UInt8.ofNat r] = (#[Value.int .u8 (r : Int)] : Array Value).toList := by simp [bytesV]; omega
      rw [e, <- hX1, <- hg1]
      exact World.ownsRow_lit X0 #[.int .u8 (r : Int)] 1 (Nat.le_refl _) (by unfold maxLen; decide) rfl)
     have hw8 : IntKind.u8.wrap (r : Int) = (r : Int) := by rw [IntKind.wrap_u8]; omega
     have HB1 := Lh hb1
     have HX1 := Lh hX1
     have HG1 := Lh hg1
     clear hb1 hX1 hg1 hr8
     go_wp2_with (first | rw [HX1.out, HG1.out])
     refine (rnum9_any (d : Int) X1).mono ?_
     rintro e X2 ⟨g2, rfl, hr2, hb2⟩
     have HO2 := Lh (own_later11 HO1.out hb2)
     have HR2 : Hid (RowIs X2 (some ⟨g2, 0, none⟩) (bytesV (Da.num8 (d : Int))) 8) := Lh hr2
     have HB2 := Lh (Ks HB1.out hb2)
     clear hr2 hb2 HO1 HX1
     go_wp2_with (first | (at_builtin; refine append_row rfl (.tmp 37) (.tmp 39) rfl X0.heap.size _ 1 [UInt8.ofNat r] rfl HO2.out (some ⟨g2, 0, none⟩) 8 8 (Da.num8 (d : Int)) rfl (Da.num8_length _).symm HR2.out (by omega) HB2.out.size ?_))
     intro v3 X3 hv3 hg3
     have hb3 := own_below (n := 0) HB2.out HO2.out hg3
     obtain ⟨o3, c3, rfl, hr3⟩ := owns_is hv3 (by simp [Da.num8_length])
     have RM := rmac_any k ([UInt8.ofNat r] ++ Da.num8 (d : Int)) o o3 c c3 X3 (((HK.out.later HBw.out).later HB.out).later hb3) hr3 (((HV.out.later HBw.out).later HB.out).later hb3) HKL.out (by simp [Da.num8_length])
     rw [HL.out, show ([UInt8.ofNat r] ++ Da.num8 (d : Int)).length = 9 by simp [Da.num8_length]] at RM
     obtain ⟨H, hH⟩ : ∃ H, Da.hmac k ([UInt8.ofNat r] ++ Da.num8 (d : Int)) = H := ⟨_, rfl⟩
     have hHl : H.length = 32 := by rw [<- hH]; exact Da.hmac_length _ _
     have HMX : Hid (Da.mx k j r d = Da.nbe (H.take 8) % S) := Lh (by rw [<- hH, <- HS.out]; rfl)
     obtain ⟨E, hE⟩ : ∃ E, (bytesV H).toArray = E := ⟨_, rfl⟩
     rw [hH, hE] at RM
     have HRM := Lh RM
     have HDS : Hid ((Tryz.prog.info? 31).map (·.size) = some E.size) := Lh (by rw [d32_info, <- hE]; simp [hHl])
     have HDO : Hid (E.all (·.oneCell') = true) := Lh (by rw [<- hE]; exact all_oneCell_toArray (bytesV_one _))
     have HDZ : Hid (Z.size = E.size) := Lh (by rw [HZ.out, <- hE]; simp [hHl])
     have HE := Lh hE
     have HHL := Lh hHl
     have HB3 := Lh hb3
     clear RM hE hHl hH hb3 hv3 hg3 hr3 HO2 HR2
     go_wp2_with fail
     refine HRM.out.mono ?_
     rintro e X4 ⟨rfl, hb4⟩
     obtain ⟨gD, hgD⟩ : ∃ gD, X4.heap.size = gD := ⟨_, rfl⟩
     obtain ⟨X5, hX5⟩ : ∃ X5, X4.alloc (.cells Z 31) = X5 := ⟨_, rfl⟩
     obtain ⟨X6, hX6⟩ : ∃ X6, X5.setRow gD E = X6 := ⟨_, rfl⟩
     have hA5 : Arr X5 gD 31 Z.toList := by rw [<- hX5, <- hgD]; exact Arr.made _ _ _
     have hA6 : Arr X6 gD 31 (bytesV H) := by rw [<- hX6, <- HE.out]; exact setRow_heap _ _ _ _ _ _ hA5
     have hb6 : Below X4.heap.size X4 X6 := by rw [<- hX6, <- hX5]; exact ((Below.refl _ _).alloc (Nat.le_refl _) _).trans (below_row (Nat.le_of_eq hgD))
     have HB6 := Lh (Ks (Ks HB3.out hb4) hb6)
     have HA6 := Lh hA6
     have HA5 : Hid (X5.heap[gD]? = some (.cells Z 31 (0, 0))) := Lh hA5
     have HX5 := Lh hX5
     have HX6 := Lh hX6
     have HGD := Lh hgD
     clear hX5 hX6 hgD hA5 hA6 hb6 hb4 HRM
     go_wp2_with (first | rw [HX5.out, HGD.out] | refine wpList_store_row rfl 31 (.tmp 12) (.tmp 41) rfl gD E rfl rfl 31 Z HA5.out HDS.out HDZ.out HDO.out ?_ | rw [HX6.out])
     go_loopw [13, 44] (fun s i wr' => NbAt H X6 s i wr') (fun _ i _ => 8 - (intOf i).toNat)
     case atStart => exact ⟨0, by omega, rfl, rfl, Below.refl _ _⟩
     case round =>
      rename World => Y
      obtain ⟨q, hq, rfl, rfl, hBY⟩ := hrel
      by_cases hlt8 : q < 8
      ·have hcc : Y.cell? ⟨gD, q, none⟩ = some (.int .u8 ((H.getD q 0).toNat : Int)) := by
        rw [(HA6.out.later hBY HA6.out.lt).cell]
        exact bytesV_get H q (by rw [HHL.out]; omega)
       have hst := Da.nbe_step H q (by rw [HHL.out]; omega)
       obtain ⟨s, hs⟩ : ∃ s, Da.nbe (H.take q) = s := ⟨_, rfl⟩
       obtain ⟨y, hy⟩ : ∃ y, (H.getD q 0).toNat = y := ⟨_, rfl⟩
       have hyl : y < 256 := by rw [<- hy]; exact UInt8.toNat_lt _
       have hsm : s < 2 ^ 56 := by
        rw [<- hs]
        exact Nat.lt_of_lt_of_le (Da.nbe_lt H q) (by rw [show (2 : Nat) ^ 56 = 256 ^ 7 from rfl]; exact Nat.pow_le_pow_right (by omega) (by omega))
       rw [hs, hy] at hst
       rw [hy] at hcc
       rw [hs]
       have h1 : IntKind.u64.wrap ((s : Int) * 256) = (s : Int) * 256 := by rw [IntKind.wrap_u64]; omega
       have h2 : IntKind.u64.wrap (y : Int) = (y : Int) := by rw [IntKind.wrap_u64]; omega
       have h3 : IntKind.u64.wrap ((s : Int) * 256 + (y : Int)) = (s : Int) * 256 + (y : Int) := by rw [IntKind.wrap_u64]; omega
       have HBY := Lh hBY
       have HST := Lh hst
       clear hBY hst hs hy
       go_wp2_with fail
       exact ⟨⟨q + 1, by omega, rfl, by rw [HST.out]; rfl, HBY.out⟩, by simp [intOf]; omega⟩
      ·obtain rfl : q = 8 := by omega
       have hnl := Da.nbe_lt H 8
       have HMX := HMX
       obtain ⟨N, hN⟩ : ∃ N, Da.nbe (H.take 8) = N := ⟨_, rfl⟩
       rw [hN] at hnl HMX ⊢
       have hNl : N < 18446744073709551616 := hnl
       have hsm : N % S < S := Nat.mod_lt _ hp
       have h1 : IntKind.u64.wrap (S : Int) = (S : Int) := by rw [IntKind.wrap_u64]; omega
       have h2 : ((N : Int).tmod (S : Int)) = ((N % S : Nat) : Int) := by rw [Int.tmod_eq_emod_of_nonneg (by omega)]; rfl
       rw [<- HMX.out] at h2 hsm
       obtain ⟨y, hy⟩ : ∃ y, Da.mx k j r d = y := ⟨_, rfl⟩
       rw [hy] at h2 hsm HN
       have h3 : IntKind.u64.wrap (y : Int) = (y : Int) := by rw [IntKind.wrap_u64]; omega
       have h4 : IntKind.i64.wrap (y : Int) = (y : Int) := by rw [IntKind.wrap_i64]; omega
       have HXO := Lh (xor_i64 a y (by omega) (by omega))
       have HBY := Lh (Ks (Ks HB.out HB6.out) hBY)
       clear hBY hnl hN hy hNl hsm
       go_wp2_with fail
       exact ⟨⟨r + 1, by omega, by rfl, by rw [HN.out], by rw [HN.out, HXO.out], HBY.out⟩, by simp [intOf]; omega⟩
    ·obtain rfl : r = 4 := by omega
     have hd1 : decide (((4 : Nat) : Int) < 4) = false := by decide
     have HXJ := Lh (hXJ rfl)
     have hm1 : a * S <= 1024 * 1024 := Nat.mul_le_mul (by omega) (by omega)
     have HF : Hid (((a * S + d : Nat) : Int) = (a : Int) * (S : Int) + (d : Int)) := Lh (by simp)
     obtain ⟨P, hP⟩ : ∃ P : Int, (a : Int) * (S : Int) = P := ⟨_, rfl⟩
     have hPb : 0 <= P /\ P <= 1048576 := by
      rw [<- hP]
      have e : (a : Int) * (S : Int) = ((a * S : Nat) : Int) := by simp
      rw [e]; omega
     have HF : Hid (((Da.son k j x : Nat) : Int) = P + (d : Int)) := Lh (by rw [HXJ.out, HF.out, hP])
     have hdS : (d : Int) < 1024 := by omega
     clear hXJ hm1 HXJ
     go_wp2_with fail
     go_ret
     exact ⟨by rw [HF.out]; rfl, HB.out⟩
theorem rstep_any (k : List UInt8) (o : Option Addr) (c : Nat) (m : Nat) (h10 : m <= 10) (x : Nat) (hx : x < 4 ^ m) (w : World) (hK : RowIs w o (bytesV k) c) (hV : Rds w) (hkl : k.length <= 90000) :
    Calls Tryz.prog 85 #[.slice o k.length c, .int .i64 (m : Int), .int .i64 (x : Int)] w fun e w' => e = .returned (.int .i64 ((Da.son k m x : Nat) : Int)) /\ Below w.heap.size w w' :=
 rstep_of _ rfl d32_zero k o c m h10 x hx w hK hV hkl
theorem rto_any (k : List UInt8) (o : Option Addr) (c : Nat) (n : Nat) (hn : n <= 1048576) (x : Nat) (hx : x < n) (w : World) (hK : RowIs w o (bytesV k) c) (hV : Rds w) (hkl : k.length <= 90000) :
    Calls Tryz.prog 43 #[.slice o k.length c, .int .i64 (n : Int), .int .i64 (x : Int)] w fun e w' => e = .returned (.int .i64 ((Da.pl (Da.son k (Da.bw n)) n (4 ^ Da.bw n) x : Nat) : Int)) /\ Below w.heap.size w w' := by
 have BI := Lh (rbits_any n hn w)
 have hm10 := (Da.bw_le n hn).2
 have hnM := Da.bw_ge n hn
 obtain ⟨m, hm⟩ : ∃ m, Da.bw n = m := ⟨_, rfl⟩
 rw [hm] at hm10 hnM BI ⊢
 have hp : Da.Perm (4 ^ m) (Da.son k m) (Da.sbk k m) := Da.sperm k m
 obtain ⟨H, hM⟩ := hp.hit n x hx hnM
 have ST : Hid (∀ (y : Nat), y < 4 ^ m -> ∀ v, Below w.heap.size w v -> Calls Tryz.prog 85 #[.slice o k.length c, .int .i64 (m : Int), .int .i64 (y : Int)] v fun e w' => e = .returned (.int .i64 ((Da.son k m y : Nat) : Int)) /\ Below v.heap.size v w') :=
  Lh (fun y hy v hb => rstep_any k o c m hm10 y hy v (hK.later hb) (hV.later hb) hkl)
 obtain ⟨L, hL⟩ : ∃ L, k.length = L := ⟨_, rfl⟩
 rw [hL] at ST ⊢
 have hFT : ∀ y, y < 4 ^ m -> Da.son k m y < 4 ^ m := hp.flt
 have hxM : x < 4 ^ m := by omega
 obtain ⟨T, hT⟩ : ∃ T, Da.pl (Da.son k m) n (4 ^ m) x = T := ⟨_, rfl⟩
 have hit0 : Da.it (Da.son k m) (Da.dst (Da.son k m) n (4 ^ m) (Da.son k m x)) (Da.son k m x) = T := hT
 obtain ⟨f, hf⟩ : ∃ f, Da.son k m = f := ⟨_, rfl⟩
 rw [hT]
 rw [hf] at H hM ST hFT hit0
 obtain ⟨M, hMM⟩ : ∃ M, 4 ^ m = M := ⟨_, rfl⟩
 rw [hMM] at H hM ST hFT hit0 hxM
 have HFT := Lh hFT
 obtain ⟨d0, hd0⟩ : ∃ d, Da.dst f n M (f x) = d := ⟨_, rfl⟩
 rw [hd0] at H hM hit0
 have HX0 : Hid (∀ wr, Below w.heap.size w wr -> Co11At f n M T w (.int .i64 ((f x : Nat) : Int)) wr) := Lh (fun wr hb => ⟨f x, d0, rfl, hFT x hxM, by omega, H, hit0, hb⟩)
 have ST0 := Lh (ST.out x hxM w (Below.refl _ _))
 obtain ⟨x1, hx1⟩ : ∃ x1, f x = x1 := ⟨_, rfl⟩
 rw [hx1] at HX0 ST0
 clear hK hV hm hnM hp H hM hFT hxM hT hit0 hf hMM hd0 hx1 hx hm10 hL hkl
 go_enter Tryz.func43, Tryz.ntmps43
 go_wp2_with fail
 refine BI.out.mono ?_
 rintro e w1 ⟨rfl, rfl⟩
 go_wp2_with fail
 refine ST0.out.mono ?_
 rintro e W1 ⟨rfl, hb1⟩
 have HB1 := Lh hb1
 clear hb1 ST0 BI
 go_wp2_with fail
 go_loopw [8] (fun i wr => Co11At f n M T w1 i wr) (fun i _ => Da.dst f n M (intOf i).toNat)
 case atStart => exact HX0.out W1 HB1.out
 case round =>
  obtain ⟨y, d, rfl, hy, hd, hh, hi, hB⟩ := hrel
  by_cases hlt : y < n
  ·have hd1 : decide ((y : Int) >= (n : Int)) = false := by simp; omega
   have he : y = T := by
    have := hh.here hlt
    subst this
    exact hi
   have HE := Lh he
   have HB := Lh hB
   clear hB hh hi he hy hd
   go_wp2_with fail
   go_ret
   exact ⟨by rw [<- HE.out]; rfl, HB.out⟩
  ·have hd1 : decide ((y : Int) >= (n : Int)) = true := by simp; omega
   have hdy := hh.dst hd
   obtain ⟨d', rfl, hh'⟩ := hh.step (by omega)
   have hdf := hh'.dst (q := M) (by omega)
   have ST1 := Lh (ST.out y hy wr hB)
   have HNX : Hid (∀ wr', Below w1.heap.size w1 wr' -> Co11At f n M T w1 (.int .i64 ((f y : Nat) : Int)) wr') := Lh (fun wr' hb => ⟨f y, d', rfl, HFT.out y hy, by omega, hh', hi, hb⟩)
   have HDL : Hid (Da.dst f n M (f y) < Da.dst f n M y) := Lh (by rw [hdy, hdf]; omega)
   obtain ⟨y1, hy1⟩ : ∃ y1, f y = y1 := ⟨_, rfl⟩
   rw [hy1] at ST1 HNX HDL
   have HB := Lh hB
   clear hB hh hi hy hd hdy hh' hdf hy1
   go_wp2_with fail
   refine ST1.out.mono ?_
   rintro e W2 ⟨rfl, hb2⟩
   have HB2 := Lh (Ks HB.out hb2)
   clear hb2 ST1
   go_wp2_with fail
   exact ⟨HNX.out W2 HB2.out, by simp only [intOf, Int.toNat_natCast]; exact HDL.out⟩
end Go.Proofs.YtffheegeaghfjaaGreatDoor

namespace Go.Proofs.YtffheegeaghfjaaGreatDoor.Er
open Go.RowKit
theorem unwrap16_any : UnwrapOk := by
 intro W a v hc hs
 obtain ⟨b, off, sp⟩ := a
 dsimp only at hs hc
 subst hs
 go_enter Tryz.func209, Tryz.ntmps209
 go_wp2
 go_ret
 exact ⟨rfl, rfl⟩
end Go.Proofs.YtffheegeaghfjaaGreatDoor.Er
