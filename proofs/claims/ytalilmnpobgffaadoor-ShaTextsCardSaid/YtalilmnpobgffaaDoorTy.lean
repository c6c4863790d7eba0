/- Digests as figures: the document's Hex; the code's Zero, Less. -/
import Derived.Test.YtalilmnpobgffaaDoorTx
import Derived.Test.YtalilmnpobgffaaDoorHp
import Derived.Stop.BytesEq
namespace Go.Proofs.YtalilmnpobgffaaDoor
open Go.RowKit
set_option linter.unusedVariables false
set_option linter.unusedSimpArgs false
def hexk (d : List UInt8) (k : Nat) : List UInt8 := (hexL d).take (2 * k)
theorem hexk_step (d : List UInt8) (k : Nat) (h : k < 32) : hexk d (k + 1) = hexk d k ++ [fg ((d.getD k 0).toNat / 16), fg ((d.getD k 0).toNat % 16)] := by
  unfold hexk
  have hl := hexL_length d
  rw [show 2 * (k + 1) = 2 * k + 1 + 1 by omega, List.take_add_one, List.take_add_one, List.getElem?_eq_getElem (by omega), List.getElem?_eq_getElem (by omega), ← getD_at, ← getD_at, hexL_get _ _ (by omega), hexL_get _ _ (by omega), if_pos (by omega), if_neg (by omega), show 2 * k / 2 = k by omega, show (2 * k + 1) / 2 = k by omega]
  simp
theorem fig_sl (u : Nat) (h : u < 16) (W : World) : (Instr.slice 9 (.string ⟨#[48, 49, 50, 51, 52, 53, 54, 55, 56, 57, 97, 98, 99, 100, 101, 102]⟩) (some (.int .u8 (u : Int))) (some (.int .u8 ((u : Int) + 1))) none).run Tryd.prog W = .ok (.string ⟨#[fg u]⟩) W := by
  match u, h with
  | 0, _ | 1, _ | 2, _ | 3, _ | 4, _ | 5, _ | 6, _ | 7, _ | 8, _ | 9, _ | 10, _ | 11, _ | 12, _ | 13, _ | 14, _ | 15, _ => rfl
  | n + 16, h => omega
def Rh1 (d : List UInt8) (g : Nat) (w : World) (s i : Value) (wr : World) : Prop :=
  ∃ k : Nat, k ≤ 32 ∧ i = .int .i64 k ∧ s = .string ⟨(hexk d k).toArray⟩ ∧ Below w.heap.size w wr
set_option maxRecDepth 100000 in
set_option maxHeartbeats 1000000 in
theorem rhex_any (d : List UInt8) (hd : d.length = 32) (w : World) :
    Calls Tryd.prog 16 #[.agg (bytesV d).toArray] w fun e w' => e = .returned (.string ⟨(hexL d).toArray⟩) ∧ Below w.heap.size w w' := by
  obtain ⟨C, hC⟩ : ∃ C, (bytesV d).toArray = C := ⟨_, rfl⟩
  rw [hC]
  obtain ⟨g, hg⟩ : ∃ g, w.heap.size = g := ⟨_, rfl⟩
  obtain ⟨W1, hW1⟩ : ∃ W1, w.alloc (Obj.cells C 26) = W1 := ⟨_, rfl⟩
  have hA1 : Arr W1 g 26 (bytesV d) := by rw [← hW1, ← hC, ← hg]; exact Arr.made _ _ _
  have HIN : Hid (W1.heap[g]? = some (.cells C 26 (0, 0))) := Lib.hid (by rw [← hC]; exact hA1)
  have HB1 : Hid (Below w.heap.size w W1) := Lib.hid (by rw [← hW1]; exact (Below.refl _ _).alloc (Nat.le_refl _) _)
  have HL : Hid ((Tryd.prog.info? 26).map (·.size) = some C.size) := Lib.hid (by rw [d32_info, ← hC]; simp [hd])
  have HC := Lib.hid hC
  have HW1 := Lib.hid hW1
  have HD := Lib.hid hd
  clear hC hW1 hA1 hd
  go_enter Tryd.func16, Tryd.ntmps16
  go_wp2_with (first | rw [HW1.out] | refine wpList_load_row rfl 26 (.tmp 1) rfl g rfl 26 C (0, 0) _ HIN.out d32_under rfl HL.out ?_)
  clear HIN HW1
  go_loopw [4, 8] (fun s i wr => Rh1 d g w s i wr) (fun _ i _ => 32 - (intOf i).toNat)
  case atStart => exact ⟨0, Nat.zero_le _, rfl, rfl, HB1.out⟩
  case round =>
    rename World => V
    obtain ⟨k, hk, rfl, rfl, hB⟩ := hrel
    by_cases hlt : k < 32
    · have hd1 : decide ((k : Int) < 32) = true := by simpa using (by omega : (k : Int) < 32)
      obtain ⟨b, hb⟩ : ∃ b, d.getD k 0 = b := ⟨_, rfl⟩
      have hIX : ∀ W, (Instr.index 26 (.agg C) (.int .i64 (k : Int))).run Tryd.prog W = .ok (.int .u8 (b.toNat : Int)) W := run_index_one _ _ 32 C k _ d32_under (by kernel_rfl) (fun W => by kernel_rfl) hlt (by rw [← HC.out, List.getElem?_toArray, ← hb]; exact bytesV_get d k (by rw [HD.out]; exact hlt))
      obtain ⟨u, hu⟩ : ∃ u, b.toNat / 16 = u := ⟨_, rfl⟩
      obtain ⟨v, hv⟩ : ∃ v, b.toNat % 16 = v := ⟨_, rfl⟩
      have hbl := UInt8.toNat_lt b
      have hu16 : u < 16 := by omega
      have hv16 : v < 16 := by omega
      have hbu : Int.tdiv (b.toNat : Int) 16 = (u : Int) := by rw [← hu]; rfl
      have hbv : Int.tmod (b.toNat : Int) 16 = (v : Int) := by rw [← hv]; rfl
      have hw0 : IntKind.u8.wrap (u : Int) = (u : Int) := by rw [IntKind.wrap_u8]; omega
      have hw1 : IntKind.u8.wrap ((u : Int) + 1) = ((u + 1 : Nat) : Int) := by rw [IntKind.wrap_u8]; omega
      have hw2 : IntKind.u8.wrap ((v : Int) + 1) = ((v + 1 : Nat) : Int) := by rw [IntKind.wrap_u8]; omega
      have HST := Lib.hid (hexk_step d k hlt)
      rw [hb, hu, hv] at HST
      have HB := Lib.hid hB
      obtain ⟨S, hS⟩ : ∃ S : ByteArray, ⟨(hexk d k).toArray⟩ = S := ⟨_, rfl⟩
      rw [hS]
      have HS := Lib.hid hS
      have hs1 := fun W => fig_sl u hu16 W
      have hs2 := fun W => fig_sl v hv16 W
      obtain ⟨P, hP⟩ : ∃ P : ByteArray, ⟨#[fg u]⟩ = P := ⟨_, rfl⟩
      obtain ⟨Q, hQ⟩ : ∃ Q : ByteArray, ⟨#[fg v]⟩ = Q := ⟨_, rfl⟩
      rw [hP] at hs1
      rw [hQ] at hs2
      have hsz : S.size ≤ 64 := by rw [← hS]; show (hexk d k).toArray.size ≤ 64; simp [hexk, hexL_length]; omega
      have hpz : P.size = 1 := by rw [← hP]; rfl
      have hqz : Q.size = 1 := by rw [← hQ]; rfl
      have ha1 : ∀ W, (Op.stringOp .add P Q).run Tryd.prog W = .ok (.string (P ++ Q)) W := fun W => run_string_add_sum W P Q (by omega)
      have hpq : (P ++ Q).size = 2 := by rw [← hP, ← hQ]; rfl
      have hfin : S ++ (P ++ Q) = ⟨(hexk d (k + 1)).toArray⟩ := by
        rw [HST.out, ← hS, ← hP, ← hQ]
        apply ByteArray.ext
        simp [ByteArray.data_append]
      obtain ⟨PQ, hPQ⟩ : ∃ X, P ++ Q = X := ⟨_, rfl⟩
      rw [hPQ] at ha1 hpq hfin
      have ha2 : ∀ W, (Op.stringOp .add S PQ).run Tryd.prog W = .ok (.string (S ++ PQ)) W := fun W => run_string_add_sum W S PQ (by omega)
      obtain ⟨S2, hS2⟩ : ∃ X, S ++ PQ = X := ⟨_, rfl⟩
      rw [hS2] at ha2 hfin
      have HFIN := Lib.hid hfin
      clear hB hb hu hv hS hP hQ hsz hpz hqz hpq hPQ hS2 hfin HST HS
      go_wp2_with fail
      go_quiet (fail)
      go_wp2_with fail
      exact ⟨⟨k + 1, by omega, by go_num, by rw [HFIN.out], Kit.dn HB.out nq⟩, by simp [intOf]; omega⟩
    · obtain rfl : k = 32 := by omega
      have hfin : hexk d 32 = hexL d := by unfold hexk; exact List.take_of_length_le (by rw [hexL_length]; decide)
      rw [show (((32 : Nat) : Int)) = 32 from rfl, hfin]
      have HB := Lib.hid hB
      obtain ⟨S, hS⟩ : ∃ S : ByteArray, ⟨(hexL d).toArray⟩ = S := ⟨_, rfl⟩
      rw [hS]
      have HS := Lib.hid hS
      clear hB hS hfin
      go_wp2_with fail
      go_ret
      exact ⟨by rw [HS.out]; rfl, HB.out⟩
/-- all bytes are noughts -/
theorem dg_eql (xs ys : List UInt8) (hx : xs.length = 32) (hy : ys.length = 32) (w : World) : (binOp .eql 28 (.agg (bytesV xs).toArray) (.agg (bytesV ys).toArray)).run Tryd.prog w = .ok (.bool (xs == ys)) w :=
  run_eql_bytes w 28 5 32 dg_under Tryd.underlying5 (fun w => by
    obtain ⟨i0, hi, _, hz1, _⟩ := info_parts info_u8
    simp [sizeOf, typeInfo, hi, hz1]) xs ys hx hy
theorem dg_guard : Tryd.prog.eqGuardType Tryd.prog.depth 28 = false := by kernel_rfl
set_option maxRecDepth 100000 in
theorem zero_of (Z : Array Value) (hb : Tryd.prog.built 28 [] = some Z) (d : List UInt8) (hd : d.length = 32) (b : Bool) (hq : ∀ W, (binOp .eql 28 (.agg (bytesV d).toArray) (.agg Z)).run Tryd.prog W = .ok (.bool b) W) (w : World) :
    Calls Tryd.prog 17 #[.agg (bytesV d).toArray] w fun e w' => e = .returned (.bool b) ∧ Below w.heap.size w w' := by
  obtain ⟨C, hC⟩ : ∃ C, (bytesV d).toArray = C := ⟨_, rfl⟩
  rw [hC] at hq ⊢
  have HG := Lib.hid (World.alloc_heap_new w (.cells C 28))
  have HB := Lib.hid ((Below.refl w.heap.size w).alloc (Nat.le_refl _) (.cells C 28))
  have HL : Hid ((Tryd.prog.info? 28).map (·.size) = some C.size) := Lib.hid (by rw [dg_info, ← hC]; simp [hd])
  have HBU := Lib.hid hb
  have hgd := dg_guard
  clear hb hC
  go_enter Tryd.func17, Tryd.ntmps17
  go_wp2_with (first | refine wpList_load_row rfl 28 (.tmp 1) rfl w.heap.size rfl 28 C (0, 0) _ HG.out dg_under rfl HL.out ?_ | refine wpList_built rfl 28 _ rfl [] (by simp) Z HBU.out ?_)
  go_ret
  exact ⟨rfl, HB.out⟩
theorem zero_any (d : List UInt8) (hd : d.length = 32) (w : World) :
    Calls Tryd.prog 17 #[.agg (bytesV d).toArray] w fun e w' => e = .returned (.bool (d == List.replicate 32 0)) ∧ Below w.heap.size w w' :=
  zero_of _ dg_built d hd _ (fun W => dg_eql d (List.replicate 32 0) hd (by simp) W) w
end Go.Proofs.YtalilmnpobgffaaDoor
