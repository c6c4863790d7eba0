/- Slices that are read: a slice value whose elements, of one cell each, are a list of values. Contracts of the statements' own helpers Bytes (a copy with marked room behind) and Kept (do copy and room stand as they stood). -/
import Derived.Test.YtomkkkbdipcjgaaDoorKit
import Derived.Lib.Hide
import Derived.Outline
import Derived.WalkSpells
import Derived.Laws.BytesArg
import Derived.Deep.QuietTactic
import Derived.BigQuiet
namespace Go.Proofs.YtomkkkbdipcjgaaDoor
open Go.ChangeShapes Go.WideShapes Go.ChangeAt Go.RowKit
set_option linter.unusedVariables false

/-- the slice (address o, capacity c) has the elements vs, one cell each -/
structure RowIs (W : World) (o : Option Addr) (vs : List Value) (c : Nat) : Prop where
  le : vs.length ≤ c
  cap : c ≤ maxLen
  nil : o = none → c = 0
  cells : 0 < vs.length → ∃ b off, o = some ⟨b, off, none⟩ ∧ b < W.heap.size ∧ ∀ i v, vs[i]? = some v → W.cell? ⟨b, off + i, none⟩ = some v
theorem RowIs.later {W W' : World} {o : Option Addr} {vs : List Value} {c : Nat} (h : RowIs W o vs c) (hb : Below W.heap.size W W') : RowIs W' o vs c :=
  ⟨h.le, h.cap, h.nil, fun h0 => by
    obtain ⟨b, off, e, hlt, hc⟩ := h.cells h0
    exact ⟨b, off, e, Nat.lt_of_lt_of_le hlt hb.size, fun i v hv => by rw [hb.cell (p := ⟨b, off + i, none⟩) hlt]; exact hc i v hv⟩⟩

/-- bytes as the machine has them -/
def bytesV (z : List UInt8) : List Value := z.map fun x => .int .u8 (x.toNat : Int)
def intsV (z : List Int) : List Value := z.map (.int .i64)
@[simp] theorem bytesV_length (z : List UInt8) : (bytesV z).length = z.length := by simp [bytesV]
@[simp] theorem intsV_length (z : List Int) : (intsV z).length = z.length := by simp [intsV]
theorem bytesV_get (z : List UInt8) (i : Nat) (h : i < z.length) : (bytesV z)[i]? = some (.int .u8 ((z.getD i 0).toNat : Int)) := by
  simp [bytesV, h]
theorem intsV_get (z : List Int) (i : Nat) (h : i < z.length) : (intsV z)[i]? = some (.int .i64 (z.getD i 0)) := by
  simp [intsV, h]
theorem bytesV_one (z : List UInt8) : ∀ u ∈ bytesV z, u.oneCell' = true := by
  intro u hu
  obtain ⟨x, _, rfl⟩ := List.mem_map.1 hu
  rfl
theorem intsV_one (z : List Int) : ∀ u ∈ intsV z, u.oneCell' = true := by
  intro u hu
  obtain ⟨x, _, rfl⟩ := List.mem_map.1 hu
  rfl
theorem u8_wf {n : Int} (w : (Lit.int .u8 n).wf = true) : 0 ≤ n ∧ n ≤ 255 := by simpa [Lit.wf, IntKind.min, IntKind.max, IntKind.signed, IntKind.bits] using w
theorem i64_wf {n : Int} (w : (Lit.int .i64 n).wf = true) : -9223372036854775808 ≤ n ∧ n ≤ 9223372036854775807 := by simpa [Lit.wf, IntKind.min, IntKind.max, IntKind.signed, IntKind.bits] using w

/-- an argument that is a slice of integers of one kind -/
theorem open_row {H : Type} {enc : TypeId × Value → H} {P : Program} {W : World} {r : Reach} {base : Nat} {t e : TypeId} {k : IntKind} {v : Value} {d : DataW H} {p : List MemPlace}
    (ht : P.underlying t = some (.slice e)) (he : P.underlying e = some (.int k)) (hc : P.cellsOf e = 1) (hval : Value.okWide P W r base t v)
    (h : DataW.Trod enc P W 0 (fun _ => true) true t v d p) (hlt : ∀ x ∈ p, x.block < W.heap.size) :
    ∃ (o : Option Addr) (c : Nat) (zs : List Int), v = .slice o zs.length c ∧ RowIs W o (zs.map (.int k)) c ∧ (∀ n ∈ zs, (Lit.int k n).wf = true) ∧
      ((zs = [] ∧ d = .nil) ∨ ∃ rest, d = .slice (lits k zs) (lits k rest)) := by
  obtain ⟨a0, len, cap, rfl⟩ := okWide_slice ht hval
  obtain ⟨fuel, hf⟩ := h
  rcases open_ints ht he hc hf with ⟨hcs, hx⟩ | ⟨a, len', cap', zs, hcs, _, hl, hm, hz, hx, hcell, hwz⟩
  · simp [Value.cells] at hcs
    obtain ⟨rfl, rfl, rfl⟩ := hcs
    simp only [Prod.mk.injEq] at hx
    obtain ⟨rfl, rfl⟩ := hx
    exact ⟨none, 0, [], rfl, ⟨Nat.le_refl _, Nat.zero_le _, fun _ => rfl, fun h => absurd h (by simp)⟩, fun n hn => (by cases hn), Or.inl ⟨rfl, rfl⟩⟩
  · simp [Value.cells] at hcs
    obtain ⟨rfl, rfl, rfl⟩ := hcs
    simp only [Prod.mk.injEq] at hx
    obtain ⟨rfl, rfl⟩ := hx
    simp only [if_true] at hz
    have hlen : (zs.take len).length = len := by simp; omega
    refine ⟨some a, cap, zs.take len, by rw [hlen], ⟨by simp; omega, hm, (fun h => by cases h), fun h0 => ?_⟩, fun n hn => hwz n (List.mem_of_mem_take hn), Or.inr ⟨_, rfl⟩⟩
    have h1 : 0 < len := by simp at h0; omega
    obtain ⟨b, off, spot⟩ := a
    have hspot : spot = none := by simpa [Addr.add] using World.cell?_spot (hcell 0 (by omega))
    subst hspot
    refine ⟨b, off, rfl, hlt (.cell b off) (MemPlace.mem_row.2 ⟨0, by omega, by simp⟩), fun i v hv => ?_⟩
    have hi : i < len := by
      have := (List.getElem?_eq_some_iff.1 hv).1
      simp at this; omega
    have hc2 := hcell i (by omega)
    rw [add_plain] at hc2
    rw [hc2, ← hv]
    have hi2 : i < zs.length := by omega
    rw [List.getElem?_map, List.getElem?_take_of_lt hi]
    simp [List.getElem?_eq_getElem hi2]

/-- an argument that is a []byte -/
theorem open_bytes {H : Type} {enc : TypeId × Value → H} {P : Program} {W : World} {r : Reach} {base : Nat} {t e : TypeId} {v : Value} {d : DataW H} {p : List MemPlace}
    (ht : P.underlying t = some (.slice e)) (he : P.underlying e = some (.int .u8)) (hc : P.cellsOf e = 1) (hval : Value.okWide P W r base t v)
    (h : DataW.Trod enc P W 0 (fun _ => true) true t v d p) (hlt : ∀ x ∈ p, x.block < W.heap.size) :
    ∃ (o : Option Addr) (c : Nat) (z : List UInt8), v = .slice o z.length c ∧ RowIs W o (bytesV z) c ∧ ((z = [] ∧ d = .nil) ∨ ∃ rest, d = .slice (lits .u8 (z.map fun x => (x.toNat : Int))) (lits .u8 rest)) := by
  obtain ⟨o, c, zs, rfl, hr, hw, hd⟩ := open_row ht he hc hval h hlt
  have e : zs = (zs.map fun n => UInt8.ofNat n.toNat).map fun x => (x.toNat : Int) := by
    rw [List.map_map]
    conv => lhs; rw [← List.map_id zs]
    refine List.map_congr_left fun n hn => ?_
    have := u8_wf (hw n hn)
    simp only [id_eq, Function.comp_apply, UInt8.toNat_ofNat']
    omega
  refine ⟨o, c, zs.map fun n => UInt8.ofNat n.toNat, by simp, ?_, ?_⟩
  · have e2 : bytesV (zs.map fun n => UInt8.ofNat n.toNat) = zs.map (.int .u8) := by
      unfold bytesV
      conv => rhs; rw [e, List.map_map]
      rfl
    rw [e2]; exact hr
  · rcases hd with ⟨rfl, rfl⟩ | ⟨rest, rfl⟩
    · exact Or.inl ⟨rfl, rfl⟩
    · exact Or.inr ⟨rest, by rw [← e]⟩
end Go.Proofs.YtomkkkbdipcjgaaDoor
namespace Go.Proofs.YtomkkkbdipcjgaaDoor
open Go.ChangeShapes Go.WideShapes Go.ChangeAt Go.RowKit
set_option linter.unusedVariables false
theorem info_u8 : (Tryd.prog.info? 5).map (fun i => (i.zero, i.size, i.bytes)) = some (some (.int .u8 0), 1, 1) := by kernel_rfl
/-- the marks behind a copy -/
def marks : List UInt8 := [201, 202, 203, 204, 205, 206]
/-- block B is a copy of z with the marks behind -/
def MarkedAt (W : World) (B : Nat) (z : List UInt8) : Prop := W.heap[B]? = some (.cells (bytesV (z ++ marks)).toArray 5 (0, 0))
theorem MarkedAt.later {W W' : World} {B : Nat} {z : List UInt8} (h : MarkedAt W B z) (hb : Below W.heap.size W W') : MarkedAt W' B z := by
  unfold MarkedAt at *
  rw [hb.block B (Array.getElem?_eq_some_iff.1 h).1]; exact h
theorem MarkedAt.lt {W : World} {B : Nat} {z : List UInt8} (h : MarkedAt W B z) : B < W.heap.size := (Array.getElem?_eq_some_iff.1 h).1
theorem MarkedAt.cell {W : World} {B : Nat} {z : List UInt8} (h : MarkedAt W B z) (i : Nat) : W.cell? ⟨B, i, none⟩ = (bytesV (z ++ marks))[i]? := by
  unfold World.cell?; rw [h]; simp
theorem MarkedAt.row {W : World} {B : Nat} {z : List UInt8} (h : MarkedAt W B z) (hl : z.length + 6 ≤ maxLen) : RowIs W (some ⟨B, 0, none⟩) (bytesV z) (z.length + 6) :=
  ⟨by simp, hl, (fun h => by cases h), fun _ => ⟨B, 0, rfl, h.lt, fun i v hv => by
    rw [Nat.zero_add, h.cell]
    have hi := (List.getElem?_eq_some_iff.1 hv).1
    unfold bytesV at *
    rw [List.map_append, List.getElem?_append_left hi]; exact hv⟩⟩
theorem RowIs.adds {W : World} {o : Option Addr} {vs : List Value} {c : Nat} (h : RowIs W o vs c) : ∀ ad, o = some ad → ∀ j u, vs[j]? = some u → W.cell? (ad.add j) = some u := by
  intro ad ha j u hu
  have hj := (List.getElem?_eq_some_iff.1 hu).1
  obtain ⟨b, off, ho, hb, hc⟩ := h.cells (by omega)
  rw [ha] at ho
  obtain rfl := Option.some.inj ho
  rw [add_plain]; exact hc j u hu
/-- what Bytes answers -/
def BytesEnd (w : World) (z : List UInt8) (e : Ending) (w' : World) : Prop :=
  ∃ B, e = .returned (.slice (some ⟨B, 0, none⟩) z.length (z.length + 6)) ∧ Below w.heap.size w w' ∧ w.heap.size ≤ B ∧ MarkedAt w' B z
theorem bytesEnd_of {w w1 : World} {z : List UInt8} {g n : Nat} (hown : w1.ownsRow w.heap.size 5 1 (.slice (some ⟨g, 0, none⟩) (z.length + 6) (z.length + 6)) (z.length + 6) (bytesV z ++ bytesV marks)) (hg : w.heap.size ≤ g) (hb : Below w.heap.size w w1) :
    BytesEnd w z (.returned (.slice (some ⟨g, 0, none⟩) z.length (z.length + 6))) w1 := by
  refine ⟨g, rfl, hb, hg, ?_⟩
  obtain ⟨hl, hx⟩ := hown
  rcases hx with ⟨h, _⟩ | ⟨g', cap, cur, h, _, hh, _, _, hcur, htake⟩
  · cases h
  · injection h with h1 h2 h3
    injection h1 with h1
    injection h1 with h1
    subst h1; subst h3
    unfold MarkedAt
    rw [hh]
    have e : cur.toList = bytesV z ++ bytesV marks := by
      rw [← htake, List.take_of_length_le (by simp [hcur])]
    have e2 : cur = (bytesV (z ++ marks)).toArray := by
      apply Array.ext'
      rw [e]; simp [bytesV]
    rw [e2]
set_option maxHeartbeats 1000000 in
theorem bytes_any (z : List UInt8) (o : Option Addr) (c : Nat) (w : World) (h : RowIs w o (bytesV z) c) (hz : z.length ≤ 140737488355322) :
    Calls Tryd.prog 20 #[.slice o z.length c] w (BytesEnd w z) := by
  obtain ⟨i0, hi, hz0, hz1, hz2⟩ := info_parts info_u8
  have hm := h.cap
  have hle := h.le
  simp only [bytesV_length] at hle
  unfold maxLen at hm
  have hnone : o = none → z.length = 0 ∧ c = 0 := fun e => ⟨by have := h.nil e; omega, h.nil e⟩
  have HN := Lib.hid hnone
  have HR := Lib.hid h
  clear h hnone
  go_enter Tryd.func20, Tryd.ntmps20
  go_wp2_with (at_make; refine wpList_make_own _ rfl _ _ 36 rfl w.heap.size 5 i0 (.int .u8 0) 1 Tryd.underlying36 hi hz0 hz1 _ _ _ (z.length + 6) rfl rfl (by omega) (by rw [hz2]; omega) (by unfold maxLen; omega) (Nat.le_refl _) ?_)
  intro w0 hown0 hgrow0
  have hb0 : Below w.heap.size w w0 := (Below.refl _ _).grown hgrow0 (Nat.le_refl _) (fun k h => by cases h)
  have HB0 := Lib.hid hb0
  have HR0 := Lib.hid (HR.out.later hb0)
  clear hgrow0 hb0
  go_wp2_with (at_builtin; refine wpList_append_fits_any _ rfl (.tmp 7) (.tmp 8) 36 rfl w.heap.size 5 i0 1 Tryd.underlying36 hi hz1 w.heap.size 0 (z.length + 6) [] rfl hown0 o z.length c (bytesV z) rfl (by simp) HN.out HR0.out.adds (bytesV_one z) (by omega) ?_)
  intro w1 hown1 hgrow1
  have hb1 : Below w.heap.size w w1 := HB0.out.grown hgrow1 HB0.out.size (fun k h => by cases h; exact Nat.le_refl _)
  have HB1 := Lib.hid hb1

  clear hgrow1 hb1 hown0
  go_wp2_with (at_builtin; refine wpList_append_fits _ rfl (.tmp 9) (.tmp 10) 36 rfl w.heap.size 5 i0 1 Tryd.underlying36 hi hz1 w.heap.size z.length (z.length + 6) (bytesV z) rfl (hown1.alloc _) ⟨w1.heap.size, 0, none⟩ 6 6 (bytesV marks) rfl (by rfl) ?c1 (bytesV_one marks) (by omega) ?_)
  case c1 =>
    intro j u hj
    rw [add_plain]
    have hlt := (List.getElem?_eq_some_iff.1 hj).1
    match j, hlt with
    | 0, _ | 1, _ | 2, _ | 3, _ | 4, _ | 5, _ => simp [bytesV, marks] at hj; subst hj; simp
    | n + 6, h => exact absurd (show n + 6 < 6 from by simpa [bytesV, marks] using h) (by omega)
  intro w2 hown2 hgrow2
  have hb2 : Below w.heap.size w w2 := (HB1.out.alloc HB1.out.size _).grown hgrow2 (by have := HB1.out.size; simp; omega) (fun k h => by cases h; exact Nat.le_refl _)
  have HB2 := Lib.hid hb2
  have HO := Lib.hid hown2
  clear hgrow2 hb2 hown1 hown2
  go_wp2
  go_ret
  exact bytesEnd_of (n := 0) HO.out (Nat.le_refl _) HB2.out

/-- []byte to string: the bytes -/
theorem run_string {P : Program} {W : World} {o : Option Addr} {z : List UInt8} {c : Nat} (h : RowIs W o (bytesV z) c) {src e dst : TypeId} (hs : P.underlying src = some (.slice e)) (he : P.underlying e = some (.int .u8)) (hd : P.underlying dst = some .string) (n : Nat) :
    (convert src dst (.slice o z.length n)).run P W = .ok (.string ⟨z.toArray⟩) W := by
  rw [run_convert_bytes_string W src dst e o z.length n hs he hd]
  cases o with
  | none =>
    have h0 := h.nil rfl
    have hl := h.le
    have hz : z = [] := by
      apply List.eq_nil_of_length_eq_zero
      simp only [bytesV_length] at hl
      omega
    subst hz
    simp [Conv.bytesToString]
    rfl
  | some a =>
    have hl : (loadCells a z.length).run P W = .ok ((z.map fun x => (x.toNat : Int)).map (Value.int .u8)).toArray W := by
      have := run_loadCells_list (P := P) W a (bytesV z) (h.adds a rfl)
      simpa [bytesV, Function.comp_def] using this
    rw [run_bytesToString W a z.length n _ hl, foldl_push_bytes]
    simp [ByteArray.empty, ByteArray.emptyWithCapacity, Function.comp_def]
    rfl
def KeptAt (w : World) (i : Value) (wr : World) : Prop := ∃ k : Nat, k ≤ 6 ∧ i = .int .i64 k ∧ Kit.Dn w wr
theorem marks_get (k : Nat) (hk : k < 6) : ((marks.getD k 0).toNat : Int) = 201 + k := by
  match k, hk with
  | 0, _ | 1, _ | 2, _ | 3, _ | 4, _ | 5, _ => rfl
  | n + 6, h => omega
theorem kept_any (z : List UInt8) (B : Nat) (o : Option Addr) (c : Nat) (w : World) (hM : MarkedAt w B z) (hR : RowIs w o (bytesV z) c) (hz : z.length ≤ 140737488355322) :
    Calls Tryd.prog 23 #[.slice (some ⟨B, 0, none⟩) z.length (z.length + 6), .slice o z.length c] w fun e w' => e = .returned (.bool true) ∧ Kit.Dn w w' := by
  have k1 : ∀ nq, (convert 36 9 (.slice (some ⟨B, 0, none⟩) z.length (z.length + 6))).run Tryd.prog (w.drewN nq) = .ok (.string ⟨z.toArray⟩) (w.drewN nq) := fun nq =>
    run_string ((hM.row (by unfold maxLen; omega)).later (Kit.dn' w nq)) Tryd.underlying36 Tryd.underlying5 Tryd.underlying9 _
  have k2 : ∀ nq, (convert 36 9 (.slice o z.length c)).run Tryd.prog (w.drewN nq) = .ok (.string ⟨z.toArray⟩) (w.drewN nq) := fun nq =>
    run_string (hR.later (Kit.dn' w nq)) Tryd.underlying36 Tryd.underlying5 Tryd.underlying9 _
  have HM := Lib.hid hM
  clear hM hR
  have hlt : ¬ ((z.length + 6 : Int) < z.length + 6) := by omega
  go_enter Tryd.func23, Tryd.ntmps23
  go_wp2
  go_quiet (fail)
  go_wp2
  go_loopw [6] (fun i wr => KeptAt w i wr) (fun i _ => 6 - (intOf i).toNat)
  case atStart => exact ⟨0, by decide, rfl, ⟨_, rfl⟩⟩
  case round =>
    obtain ⟨k, hk, rfl, hd⟩ := hrel
    by_cases hk6 : k < 6
    · have hc : wr.cell? ⟨B, z.length + k, none⟩ = some (.int .u8 (201 + k)) := by
        rw [(HM.out.later hd.below).cell, bytesV_get _ _ (by simp [marks]; omega), ← marks_get k hk6]
        have e : (z ++ marks)[z.length + k]? = marks[k]? := by rw [List.getElem?_append_right (by omega)]; congr 1; omega
        simp [List.getD_eq_getElem?_getD, e]
      have HD := Lib.hid hd
      have ht : (((201 : Int) + k) % 256) = 201 + k := by omega
      clear hd
      go_wp2
      go_roundw
      case rel => exact ⟨k + 1, by omega, by go_num, HD.out⟩
      case measure => simp [intOf]; omega
    · obtain rfl : k = 6 := by omega
      go_wp2
      go_ret
      exact ⟨rfl, hd⟩
end Go.Proofs.YtomkkkbdipcjgaaDoor
