/- Rep -/
import Derived.Test.YtffheegeaghfjaaGreatDoorLoc
import Derived.Test.YtffheegeaghfjaaGreatDoorPe
import Derived.BigQuiet
set_option linter.unusedVariables false
set_option linter.unusedSimpArgs false
set_option maxRecDepth 100000
set_option maxHeartbeats 8000000
namespace Go.Proofs.YtffheegeaghfjaaGreatDoor
def putW (W : List UInt8) (l : List (Nat × UInt8)) : List UInt8 := l.foldl (fun w e => w.set e.1 (co w e.1 ^^^ e.2)) W
theorem putW_cons (W : List UInt8) (e : Nat × UInt8) (l : List (Nat × UInt8)) : putW W (e :: l) = putW (W.set e.1 (co W e.1 ^^^ e.2)) l := rfl
@[simp] theorem putW_length (W : List UInt8) (l : List (Nat × UInt8)) : (putW W l).length = W.length := by
 induction l generalizing W with
 | nil => rfl
 | cons e l ih => rw [putW_cons, ih, List.length_set]
def xsN (n : Nat) (H : List Nat) : List UInt8 := H.map fun p => Gf.al (n - 1 - p)
@[simp] theorem xsN_length (n : Nat) (H : List Nat) : (xsN n H).length = H.length := by simp [xsN]
structure All (n : Nat) (z : List Int) (H P : List Nat) : Prop where
 nd : P.Nodup
 lt : ∀ p ∈ P, p < n
 mem : ∀ p, p < n -> (p ∈ P ↔ ((p : Int) ∈ z ∨ p ∈ H))
theorem ints_mem {n : Nat} {z : List Int} (hok : EOk n z) {q : Int} (hq : q ∈ z) : 0 <= q /\ q < n := by
 obtain ⟨k, hk, rfl⟩ := List.getElem_of_mem hq
 have := hok.1 k hk
 unfold ci at this
 rw [List.getD_eq_getElem?_getD, List.getElem?_eq_getElem hk] at this
 exact this
theorem ints_nodup {n : Nat} {z : List Int} (hok : EOk n z) : z.Nodup := by
 rw [List.nodup_iff_pairwise_ne, List.pairwise_iff_getElem]
 intro i j hi hj hij
 have := hok.2.1 j i hij hj
 unfold ci at this
 rw [List.getD_eq_getElem?_getD, List.getElem?_eq_getElem hj, List.getD_eq_getElem?_getD, List.getElem?_eq_getElem hi] at this
 exact fun e => this e.symm
theorem All.length {n : Nat} {z : List Int} {H P : List Nat} (h : All n z H P) (hok : EOk n z) (hH : H.Nodup) (hm : ∀ p ∈ H, p < n /\ (p : Int) ∉ z) : P.length = z.length + H.length := by
 have hzn : (z.map Int.toNat).Nodup := by
  have h1 := ints_nodup hok
  rw [List.nodup_iff_pairwise_ne, List.pairwise_map]
  rw [List.nodup_iff_pairwise_ne] at h1
  refine List.Pairwise.imp_of_mem (fun {a b} ha hb hab => ?_) h1
  have := ints_mem hok ha
  have := ints_mem hok hb
  omega
 have hall : (z.map Int.toNat ++ H).Nodup := List.nodup_append.2 ⟨hzn, hH, fun a ha b hb e => by
  subst e
  obtain ⟨q, hq, rfl⟩ := List.mem_map.1 ha
  have := ints_mem hok hq
  exact (hm _ hb).2 (by rw [Int.toNat_of_nonneg this.1]; exact hq)⟩
 have h1 := nodup_sub P (z.map Int.toNat ++ H) h.nd fun p hp => by
  rcases (h.mem p (h.lt p hp)).1 hp with h2 | h2
  ·exact List.mem_append.2 (.inl (List.mem_map.2 ⟨p, h2, by simp⟩))
  ·exact List.mem_append.2 (.inr h2)
 have h2 := nodup_sub (z.map Int.toNat ++ H) P hall fun p hp => by
  rcases List.mem_append.1 hp with h2 | h2
  ·obtain ⟨q, hq, rfl⟩ := List.mem_map.1 h2
   have := ints_mem hok hq
   exact (h.mem q.toNat (by omega)).2 (.inl (by rw [Int.toNat_of_nonneg this.1]; exact hq))
  ·exact (h.mem p (hm p h2).1).2 (.inr h2)
 simp at h1 h2
 omega
def vi (n p : Nat) : UInt8 := Gf.gd 1 (Gf.al (n - 1 - p))
def srP (P : List UInt8) (n k : Nat) : List Nat := (List.range k).filter fun p => decide (evL P (vi n p) = 0)
def amt (G O : List UInt8) (n p : Nat) : UInt8 := Gf.gd (Gf.gm (Gf.al (n - 1 - p)) (evL O (vi n p))) (evL (slopeL G) (vi n p))
def gnL (G : List (List UInt8)) : Nat -> List Int
 | 0 => []
 | k + 1 => if (bi G k).length = 8 then gnL G k else gnL G k ++ [(k : Int)]
def mbk (vs : Nat -> List UInt8) (i : Nat) : List UInt8 := tab (fun j => co (vs j) i) 8
@[simp] theorem mbk_length (vs : Nat -> List UInt8) (i : Nat) : (mbk vs i).length = 8 := by simp [mbk]
def prt (vs : Nat -> List UInt8) (k : Nat) : List UInt8 := tab (fun q => co (vs (q % 8)) (q / 8)) (8 * k)
@[simp] theorem prt_length (vs : Nat -> List UInt8) (k : Nat) : (prt vs k).length = 8 * k := by simp [prt]
def hitB (G : List (List UInt8)) (vs : Nat -> List UInt8) (i : Nat) : Bool := decide ((bi G i).length = 8) && decide (bi G i ≠ mbk vs i)
def chN (G : List (List UInt8)) (vs : Nat -> List UInt8) : Nat -> Nat
 | 0 => 0
 | k + 1 => chN G vs k + if hitB G vs k = true then 1 else 0
def grpG (bs : List (List UInt8)) (l : List Nat) (g : Nat) : List (List UInt8) := (bs.drop (atG l g)).take (szG l g + 32)
def erG (bs : List (List UInt8)) (l : List Nat) : Nat -> List Int
 | 0 => []
 | g + 1 => erG bs l g ++ [((gnL (grpG bs l g) (szG l g + 32)).length : Int)]
def chG (bs : List (List UInt8)) (l : List Nat) (V : Nat -> Nat -> List UInt8) : Nat -> List Int
 | 0 => []
 | g + 1 => chG bs l V g ++ [(chN (grpG bs l g) (V g) (szG l g + 32) : Int)]
@[simp] theorem erG_length (bs : List (List UInt8)) (l : List Nat) (g : Nat) : (erG bs l g).length = g := by
 induction g with
 | zero => rfl
 | succ g ih => simp [erG, ih]
@[simp] theorem chG_length (bs : List (List UInt8)) (l : List Nat) (V : Nat -> Nat -> List UInt8) (g : Nat) : (chG bs l V g).length = g := by
 induction g with
 | zero => rfl
 | succ g ih => simp [chG, ih]
end Go.Proofs.YtffheegeaghfjaaGreatDoor
namespace Go.Proofs.YtffheegeaghfjaaGreatDoor
open Go.RowKit
theorem cell_later {W W' : World} {g : Nat} {v : Value} (hb : Below W.heap.size W W') (hc : W.cell? ⟨g, 0, none⟩ = some v) : W'.cell? ⟨g, 0, none⟩ = some v := by
 have hlt : g < W.heap.size := by
  unfold World.cell? at hc
  cases hh : W.heap[g]? with
  | none => simp [hh] at hc
  | some o => exact (aE.1 hh).1
 rw [hb.cell (p := ⟨g, 0, none⟩) hlt]; exact hc
def amS (G O : List UInt8) (n : Nat) : List (Nat × UInt8) := (srP G n n).map fun p => (p, amt G O n p)
@[simp] theorem amS_length (G O : List UInt8) (n : Nat) : (amS G O n).length = (srP G n n).length := by simp [amS]
end Go.Proofs.YtffheegeaghfjaaGreatDoor
