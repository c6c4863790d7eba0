/- A digest's figures: the code's Hex; the chapter's example. -/
import Derived.Test.YtalilmnpobgffaaDoorHf
namespace Go.Proofs.YtalilmnpobgffaaDoor
open Go.RowKit
set_option linter.unusedVariables false
set_option linter.unusedSimpArgs false
def fig : List UInt8 := [48, 49, 50, 51, 52, 53, 54, 55, 56, 57, 97, 98, 99, 100, 101, 102]
def figS : ByteArray := ⟨#[48, 49, 50, 51, 52, 53, 54, 55, 56, 57, 97, 98, 99, 100, 101, 102]⟩
def fg (i : Nat) : UInt8 := fig.getD i 0
/-- a digest's figures -/
def hexL (d : List UInt8) : List UInt8 := (List.range 64).map fun q => if q % 2 = 0 then fg ((d.getD (q / 2) 0).toNat / 16) else fg ((d.getD (q / 2) 0).toNat % 16)
def hexp (d : List UInt8) (m : Nat) : List UInt8 := (List.range 64).map fun q => if q < m then (if q % 2 = 0 then fg ((d.getD (q / 2) 0).toNat / 16) else fg ((d.getD (q / 2) 0).toNat % 16)) else 0
theorem hexp_length (d : List UInt8) (m : Nat) : (hexp d m).length = 64 := by simp [hexp]
theorem hexL_length (d : List UInt8) : (hexL d).length = 64 := by simp [hexL]
theorem hexp_zero (d : List UInt8) : hexp d 0 = List.replicate 64 0 := by
  refine List.ext_getElem (by simp [hexp]) fun j h1 h2 => ?_
  rw [List.getElem_replicate]; simp only [hexp, List.getElem_map, Nat.not_lt_zero, if_false]
theorem hexp_end (d : List UInt8) : hexp d 64 = hexL d := by
  unfold hexp hexL
  refine List.map_congr_left fun q hq => ?_
  rw [if_pos (by simpa using hq)]
theorem hexp_step (d : List UInt8) (m : Nat) : (hexp d m).set m (if m % 2 = 0 then fg ((d.getD (m / 2) 0).toNat / 16) else fg ((d.getD (m / 2) 0).toNat % 16)) = hexp d (m + 1) := by
  refine List.ext_getElem (by simp [hexp]) fun j h1 h2 => ?_
  simp only [hexp, List.getElem_set, List.getElem_map, List.getElem_range]
  by_cases e : m = j
  · subst e; simp
  · rw [if_neg e]
    by_cases e2 : j < m
    · rw [if_pos e2, if_pos (show j < m + 1 by omega)]
    · rw [if_neg e2, if_neg (show ¬ j < m + 1 by omega)]
theorem fig_ix (i : Nat) (h : i < 16) (W : World) : (Instr.index 9 (.string figS) (.int .u8 (i : Int))).run Tryd.prog W = .ok (.int .u8 ((fg i).toNat : Int)) W := by
  rw [run_index_string W 9 figS .u8 (i : Int) Tryd.underlying9, dif_pos (by rw [show figS.size = 16 from rfl]; omega)]
  match i, h with
  | 0, _ | 1, _ | 2, _ | 3, _ | 4, _ | 5, _ | 6, _ | 7, _ | 8, _ | 9, _ | 10, _ | 11, _ | 12, _ | 13, _ | 14, _ | 15, _ => rfl
  | n + 16, h => omega
theorem b64_zero (w : World) : Sem.run Tryd.prog (zeroValue 53) w = .ok (.agg (bytesV (List.replicate 64 0)).toArray) w := by kernel_rfl
theorem put_byte0 {W X : World} {b n i : Nat} {T : TypeId} {l l' : List UInt8} (h : Arr W b T (bytesV l) ∧ Below n X W) (hn : n ≤ b) (x : UInt8) (e : l.set i x = l') :
    Arr (W.setCell ⟨b, i, none⟩ (.int .u8 (x.toNat : Int))) b T (bytesV l') ∧ Below n X (W.setCell ⟨b, i, none⟩ (.int .u8 (x.toNat : Int))) :=
  ⟨by rw [← e, ← bytesV_set']; exact h.1.set i _, h.1.below h.2 hn i _⟩
def Hx1 (d : List UInt8) (g : Nat) (w : World) (i : Value) (wr : World) : Prop :=
  ∃ k : Nat, k ≤ 32 ∧ i = .int .i64 k ∧ Arr wr (g + 1) 53 (bytesV (hexp d (2 * k))) ∧ Below w.heap.size w wr
set_option maxRecDepth 100000 in
set_option maxHeartbeats 1000000 in
theorem hex_of (Z : Array Value) (hZ : Z = (bytesV (List.replicate 64 0)).toArray) (hzs : ∀ w, Sem.run Tryd.prog (zeroValue 53) w = .ok (.agg Z) w) (d : List UInt8) (hd : d.length = 32) (w : World) :
    Calls Tryd.prog 14 #[.agg (bytesV d).toArray] w fun e w' => e = .returned (.string ⟨(hexL d).toArray⟩) ∧ Below w.heap.size w w' := by
  obtain ⟨C, hC⟩ : ∃ C, (bytesV d).toArray = C := ⟨_, rfl⟩
  rw [hC]
  obtain ⟨g, hg⟩ : ∃ g, w.heap.size = g := ⟨_, rfl⟩
  obtain ⟨W2, hW2⟩ : ∃ W2, (w.alloc (Obj.cells C 28)).alloc (Obj.cells Z 53) = W2 := ⟨_, rfl⟩
  have hs1 : (w.alloc (Obj.cells C 28)).heap.size = g + 1 := by rw [World.size_alloc, hg]
  have hA0 : Arr (w.alloc (Obj.cells C 28)) g 28 (bytesV d) := by rw [← hC, ← hg]; exact Arr.made _ _ _
  have HIN : Hid (W2.heap[g]? = some (.cells C 28 (0, 0))) := Lib.hid (by rw [← hC, ← hW2]; exact hA0.alloc _)
  have HA : Hid (Arr W2 (g + 1) 53 (bytesV (hexp d (2 * 0)))) := Lib.hid (by rw [Nat.mul_zero, hexp_zero, ← hW2, hZ, ← hs1]; exact Arr.made _ _ _)
  have HB : Hid (Below w.heap.size w W2) := Lib.hid (by rw [← hW2]; exact ((Below.refl _ _).alloc (Nat.le_refl _) _).alloc (by rw [World.size_alloc]; omega) _)
  have HL : Hid ((Tryd.prog.info? 28).map (·.size) = some C.size) := Lib.hid (by rw [dg_info, ← hC]; simp [hd])
  have HC := Lib.hid hC
  have HW2 := Lib.hid hW2
  have HG := Lib.hid hg
  have HD := Lib.hid hd
  clear hC hW2 hs1 hA0 hZ hd
  go_enter Tryd.func14, Tryd.ntmps14
  go_wp2_with (first | rw [HW2.out] | refine wpList_load_row rfl 28 (.tmp 1) rfl g rfl 28 C (0, 0) _ HIN.out dg_under rfl HL.out ?_)
  clear HW2 HIN hzs
  go_loopw [7] (fun i wr => Hx1 d g w i wr) (fun i _ => 32 - (intOf i).toNat)
  case atStart => exact ⟨0, Nat.zero_le _, rfl, HA.out, HB.out⟩
  case round =>
    rename World => V
    obtain ⟨k, hk, rfl, hA, hB⟩ := hrel
    by_cases hlt : k < 32
    · have hd1 : decide ((k : Int) < 32) = true := by simpa using (by omega : (k : Int) < 32)
      obtain ⟨b, hb⟩ : ∃ b, d.getD k 0 = b := ⟨_, rfl⟩
      have hIX : ∀ W, (Instr.index 28 (.agg C) (.int .i64 (k : Int))).run Tryd.prog W = .ok (.int .u8 (b.toNat : Int)) W := run_index_one _ _ 32 C k _ dg_under (by kernel_rfl) (fun W => by kernel_rfl) hlt (by rw [← HC.out, List.getElem?_toArray, ← hb]; exact bytesV_get d k (by rw [HD.out]; exact hlt))
      obtain ⟨u, hu⟩ : ∃ u, b.toNat / 16 = u := ⟨_, rfl⟩
      obtain ⟨v, hv⟩ : ∃ v, b.toNat % 16 = v := ⟨_, rfl⟩
      have hbl := UInt8.toNat_lt b
      have hu16 : u < 16 := by omega
      have hv16 : v < 16 := by omega
      have hbu : (b.toNat : Int) / 16 = (u : Int) := by omega
      have hbv : bits .and .u8 (b.toNat : Int) 15 = (v : Int) := by
        rw [show (15 : Int) = ((15 : Nat) : Int) from rfl, (bits_nat .u8 8 (by decide) (fun n h0 h1 => by rw [IntKind.wrap_u8]; omega) _ _ (by omega) (by decide)).1, show (15 : Nat) = 2 ^ 4 - 1 from rfl, Nat.and_two_pow_sub_one_eq_mod]
        omega
      have hx1 : ∀ W, (Instr.index 9 (.string ⟨#[48, 49, 50, 51, 52, 53, 54, 55, 56, 57, 97, 98, 99, 100, 101, 102]⟩) (.int .u8 (u : Int))).run Tryd.prog W = .ok (.int .u8 ((fg u).toNat : Int)) W := fig_ix u hu16
      have hx2 : ∀ W, (Instr.index 9 (.string ⟨#[48, 49, 50, 51, 52, 53, 54, 55, 56, 57, 97, 98, 99, 100, 101, 102]⟩) (.int .u8 (v : Int))).run Tryd.prog W = .ok (.int .u8 ((fg v).toNat : Int)) W := fig_ix v hv16
      obtain ⟨p0, hp0⟩ : ∃ p, 2 * k = p := ⟨_, rfl⟩
      obtain ⟨p1, hp1⟩ : ∃ p, p0 + 1 = p := ⟨_, rfl⟩
      have e0 : IntKind.i64.wrap ((2 : Int) * (k : Int)) = (p0 : Int) := by rw [IntKind.wrap_i64]; omega
      have e1 : IntKind.i64.wrap ((p0 : Int) + 1) = (p1 : Int) := by rw [IntKind.wrap_i64]; omega
      have l0 : (p0 : Int) < 64 := by omega
      have l1 : (p1 : Int) < 64 := by omega
      rw [hp0] at hA
      have hc : ∀ j, j < 64 → V.cell? ⟨g + 1, j, none⟩ = some (.int .u8 (((hexp d p0).getD j 0).toNat : Int)) := fun j hj => by
        rw [hA.cell]; exact bytesV_get _ _ (by rw [hexp_length]; exact hj)
      have c0 := hc p0 (by omega)
      have c1 := hc p1 (by omega)
      have f0 := hA.frozen p0
      have f1 := hA.frozen p1
      have HS0 : Hid ((hexp d p0).set p0 (fg u) = hexp d (p0 + 1)) := Lib.hid (by
        have := hexp_step d p0
        rw [if_pos (by omega), show p0 / 2 = k by omega, hb, hu] at this
        exact this)
      have HS1 : Hid ((hexp d (p0 + 1)).set p1 (fg v) = hexp d (p0 + 1 + 1)) := Lib.hid (by
        have := hexp_step d (p0 + 1)
        rw [if_neg (by omega), show (p0 + 1) / 2 = k by omega, hb, hv, hp1] at this
        rw [hp1]
        exact this)
      have HA := Lib.hid hA
      have HB := Lib.hid hB
      have HP0 := Lib.hid hp0
      have HP1 := Lib.hid hp1
      have hpn : ¬ p0 = p1 := by omega
      have hpn2 : ¬ p1 = p0 := by omega
      clear hA hB hb hu hv hp0 hp1 hc
      go_wp2_with fail
      go_region
      go_wp2_with fail
      have P0 := put_byte0 ⟨HA.out, HB.out⟩ (show w.heap.size ≤ g + 1 by have := HG.out; omega) (fg u) HS0.out
      have P1 := put_byte0 P0 (show w.heap.size ≤ g + 1 by have := HG.out; omega) (fg v) HS1.out
      exact ⟨⟨k + 1, by omega, by go_num, by rw [show 2 * (k + 1) = p0 + 1 + 1 by have := HP0.out; omega]; exact P1.1.drew, Kit.dn P1.2 1⟩, by simp [intOf]; omega⟩
    · obtain rfl : k = 32 := by omega
      rw [show (((32 : Nat) : Int)) = 32 from rfl]
      rw [show 2 * 32 = 64 from rfl, hexp_end] at hA
      have hrow : RowIs V (some ⟨g + 1, 0, none⟩) (bytesV (hexL d)) 64 := by
        have := hA.row (by rw [hexL_length]; unfold maxLen; omega)
        rw [hexL_length] at this
        exact this
      have hcv : ∀ W, W = V → (convert 24 9 (.slice (some ⟨g + 1, 0, none⟩) 64 64)).run Tryd.prog W = .ok (.string ⟨(hexL d).toArray⟩) W := fun W e => by
        rw [e]
        have := run_string hrow Tryd.underlying24 Tryd.underlying5 Tryd.underlying9 64
        rw [hexL_length] at this
        exact this
      have hcv := hcv V rfl
      obtain ⟨S, hS⟩ : ∃ S : ByteArray, ⟨(hexL d).toArray⟩ = S := ⟨_, rfl⟩
      rw [hS] at hcv
      have HB := Lib.hid hB
      have HS := Lib.hid hS
      clear hA hB hrow hS
      go_wp2_with fail
      go_ret
      exact ⟨by rw [HS.out]; rfl, HB.out⟩
set_option maxRecDepth 10000 in
theorem hex_any (d : List UInt8) (hd : d.length = 32) (w : World) :
    Calls Tryd.prog 14 #[.agg (bytesV d).toArray] w fun e w' => e = .returned (.string ⟨(hexL d).toArray⟩) ∧ Below w.heap.size w w' := hex_of _ rfl b64_zero d hd w
end Go.Proofs.YtalilmnpobgffaaDoor
