/- Contracts of the statements' own helpers Bytes (a copy with marked room behind) and Kept (do copy and room stand as they stood). -/
import Derived.Test.YtkkmgjjafbjnjaaSl
import Derived.Lib.Hide
import Derived.Outline
import Derived.WalkSpells
import Derived.Laws.BytesArg
import Derived.Deep.QuietTactic
import Derived.BigQuiet
namespace Go.Proofs.Ytkkmgjjafbjnjaa
open Go.ChangeShapes Go.WideShapes Go.ChangeAt Go.RowKit
set_option linter.unusedVariables false
theorem info_u8 : (Try.prog.info? 5).map (fun i => (i.zero, i.size, i.bytes)) = some (some (.int .u8 0), 1, 1) := by kernel_rfl
/-- the marks behind a copy -/
def marks : List UInt8 := [201, 202, 203, 204, 205, 206]
/-- block B is a copy of z with the marks behind -/
def MarkedAt (W : World) (B : Nat) (z : List UInt8) : Prop := W.heap[B]? = some (.cells (bytesV (z ++ marks)).toArray 5 (0, 0))
theorem MarkedAt.later {W W' : World} {B : Nat} {z : List UInt8} (h : MarkedAt W B z) (hb : Below W.heap.size W W') : MarkedAt W' B z := by
  unfold MarkedAt at *
  rw [hb.block B (Array.getElem?_eq_some_iff.1 h).1]; exact h
theorem MarkedAt.lt {W : World} {B : Nat} {z : List UInt8} (h : MarkedAt W B z) : B < W.heap.size := (Array.getElem?_eq_some_iff.1 h).1
theorem MarkedAt.cell {W : World} {B : Nat} {z : List UInt8} (h : MarkedAt W B z) (i : Nat) : W.cell? ⟨B, i, none⟩ = (bytesV (z ++ marks))[i]? := by
  unfold World.cell?; rw [h]; simp
theorem MarkedAt.row {W : World} {B : Nat} {z : List UInt8} (h : MarkedAt W B z) (hl : z.length + 6 ≤ maxLen) : RowIs W (some ⟨B, 0, none⟩) (bytesV z) (z.length + 6) :=
  ⟨by simp, hl, (fun h => by cases h), fun _ => ⟨B, 0, rfl, h.lt, fun i v hv => by
    rw [Nat.zero_add, h.cell]
    have hi := (List.getElem?_eq_some_iff.1 hv).1
    unfold bytesV at *
    rw [List.map_append, List.getElem?_append_left hi]; exact hv⟩⟩
theorem RowIs.adds {W : World} {o : Option Addr} {vs : List Value} {c : Nat} (h : RowIs W o vs c) : ∀ ad, o = some ad → ∀ j u, vs[j]? = some u → W.cell? (ad.add j) = some u := by
  intro ad ha j u hu
  have hj := (List.getElem?_eq_some_iff.1 hu).1
  obtain ⟨b, off, ho, hb, hc⟩ := h.cells (by omega)
  rw [ha] at ho
  obtain rfl := Option.some.inj ho
  rw [add_plain]; exact hc j u hu
/-- what Bytes answers -/
def BytesEnd (w : World) (z : List UInt8) (e : Ending) (w' : World) : Prop :=
  ∃ B, e = .returned (.slice (some ⟨B, 0, none⟩) z.length (z.length + 6)) ∧ Below w.heap.size w w' ∧ w.heap.size ≤ B ∧ MarkedAt w' B z
theorem bytesEnd_of {w w1 : World} {z : List UInt8} {g n : Nat} (hown : w1.ownsRow w.heap.size 5 1 (.slice (some ⟨g, 0, none⟩) (z.length + 6) (z.length + 6)) (z.length + 6) (bytesV z ++ bytesV marks)) (hg : w.heap.size ≤ g) (hb : Below w.heap.size w w1) :
    BytesEnd w z (.returned (.slice (some ⟨g, 0, none⟩) z.length (z.length + 6))) w1 := by
  refine ⟨g, rfl, hb, hg, ?_⟩
  obtain ⟨hl, hx⟩ := hown
  rcases hx with ⟨h, _⟩ | ⟨g', cap, cur, h, _, hh, _, _, hcur, htake⟩
  · cases h
  · injection h with h1 h2 h3
    injection h1 with h1
    injection h1 with h1
    subst h1; subst h3
    unfold MarkedAt
    rw [hh]
    have e : cur.toList = bytesV z ++ bytesV marks := by
      rw [← htake, List.take_of_length_le (by simp [hcur])]
    have e2 : cur = (bytesV (z ++ marks)).toArray := by
      apply Array.ext'
      rw [e]; simp [bytesV]
    rw [e2]
/-- []byte to string: the bytes -/
theorem run_string {P : Program} {W : World} {o : Option Addr} {z : List UInt8} {c : Nat} (h : RowIs W o (bytesV z) c) {src e dst : TypeId} (hs : P.underlying src = some (.slice e)) (he : P.underlying e = some (.int .u8)) (hd : P.underlying dst = some .string) (n : Nat) :
    (convert src dst (.slice o z.length n)).run P W = .ok (.string ⟨z.toArray⟩) W := by
  rw [run_convert_bytes_string W src dst e o z.length n hs he hd]
  cases o with
  | none =>
    have h0 := h.nil rfl
    have hl := h.le
    have hz : z = [] := by
      apply List.eq_nil_of_length_eq_zero
      simp only [bytesV_length] at hl
      omega
    subst hz
    simp [Conv.bytesToString]
    rfl
  | some a =>
    have hl : (loadCells a z.length).run P W = .ok ((z.map fun x => (x.toNat : Int)).map (Value.int .u8)).toArray W := by
      have := run_loadCells_list (P := P) W a (bytesV z) (h.adds a rfl)
      simpa [bytesV, Function.comp_def] using this
    rw [run_bytesToString W a z.length n _ hl, foldl_push_bytes]
    simp [ByteArray.empty, ByteArray.emptyWithCapacity, Function.comp_def]
    rfl
def KeptAt (w : World) (i : Value) (wr : World) : Prop := ∃ k : Nat, k ≤ 6 ∧ i = .int .i64 k ∧ Kit.Dn w wr
theorem marks_get (k : Nat) (hk : k < 6) : ((marks.getD k 0).toNat : Int) = 201 + k := by
  match k, hk with
  | 0, _ | 1, _ | 2, _ | 3, _ | 4, _ | 5, _ => rfl
  | n + 6, h => omega
end Go.Proofs.Ytkkmgjjafbjnjaa
