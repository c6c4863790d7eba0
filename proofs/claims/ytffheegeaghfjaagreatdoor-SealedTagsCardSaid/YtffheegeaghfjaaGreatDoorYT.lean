/- YT -/
import Derived.Test.YtffheegeaghfjaaGreatDoorVr2
import Derived.Test.YtffheegeaghfjaaGreatDoorUx16
import Derived.Test.YtffheegeaghfjaaGreatDoorPkx
import Derived.Test.YtffheegeaghfjaaGreatDoorCh16
import Derived.Test.YtffheegeaghfjaaGreatDoorYHPT
import Derived.Test.YtffheegeaghfjaaGreatDoorYPST
import Derived.Test.YtffheegeaghfjaaGreatDoorYHT
set_option linter.unusedVariables false
set_option linter.unusedSimpArgs false
set_option maxRecDepth 100000
set_option maxHeartbeats 8000000
namespace Go.Proofs.YtffheegeaghfjaaGreatDoor.Rg
open Go.RowKit
theorem ok_at {ops : Array Oper} {N : Nat} (h : ok ops N = true) {i : Nat} {o : Oper} (ho : ops[i]? = some o) :
    (∀ g, o.guard = some g -> ∃ e ∈ o.after, e.on = g.1 /\ Region.binds .any e = true) /\ (∃ d, o.dst = some d /\ d < N) /\ ∀ e ∈ o.after, e.on < i := by
 have hi := (aE.1 ho).1
 unfold ok at h
 rw [Bool.and_eq_true] at h
 have h1 := List.all_eq_true.1 h.1 i (List.mem_range.2 hi)
 rw [ho] at h1
 dsimp only at h1
 rw [Bool.and_eq_true, Bool.and_eq_true] at h1
 obtain ⟨⟨h2, h3⟩, h4⟩ := h1
 refine ⟨?_, ?_, ?_⟩
 ·intro g hg
  rw [hg] at h2
  obtain ⟨k, hk, hk2⟩ := Array.any_eq_true.1 h2
  rw [Bool.and_eq_true, decide_eq_true_eq] at hk2
  exact ⟨_, Array.getElem_mem hk, hk2⟩
 ·cases hd : o.dst with
  | none => rw [hd] at h3; cases h3
  | some d => rw [hd] at h3; exact ⟨d, rfl, by simpa using h3⟩
 ·intro e he
  have := Array.all_eq_true_iff_forall_mem.1 h4 e he
  simpa using this
theorem ok_apart {ops : Array Oper} {N : Nat} (h : ok ops N = true) {i j : Nat} {o o' : Oper} (ho : ops[i]? = some o) (ho' : ops[j]? = some o') (hne : i ≠ j) : o.dst ≠ o'.dst := by
 have hi := (aE.1 ho).1
 have hj := (aE.1 ho').1
 unfold ok at h
 rw [Bool.and_eq_true] at h
 have h1 := List.all_eq_true.1 (List.all_eq_true.1 h.2 i (List.mem_range.2 hi)) j (List.mem_range.2 hj)
 rw [ho, ho'] at h1
 simp only [Option.map_some, Bool.or_eq_true, decide_eq_true_eq, hne, false_or, Bool.not_eq_true'] at h1
 intro e
 rw [e] at h1
 simp at h1
theorem any_grow {P : Program} {ops : Array Oper} {Q : Exit -> Act -> World -> Prop} {N : Nat} {G : Nat -> Value -> World -> Prop} {a : Act} {w : World} (hok : ok ops N = true)
    (hkeep : ∀ i x v v', G i x v -> Below v.heap.size v v' -> G i x v')
    (hgd : ∀ (i : Nat) (o : Oper) (k : Nat) (t : Bool), ops[i]? = some o -> o.guard = some (k, t) -> ∀ x v, G k x v -> x = .bool t)
    (hstep : ∀ (i : Nat) (o : Oper) (b : Act) (v : World), ops[i]? = some o -> Below w.heap.size w v -> (∀ s, (∀ (i : Nat) (o : Oper), ops[i]? = some o -> o.dst ≠ some s) -> b.tmps.getD s undef = a.tmps.getD s undef) ->
      (∀ e ∈ o.after, Region.binds .any e = true -> ∀ (o' : Oper) (d : Tmp), ops[e.on]? = some o' -> o'.dst = some d -> G e.on (b.tmps.getD d undef) v) -> Does P G Q i o b v)
    (hend : ∀ b v, Below w.heap.size w v -> b.tmps.size = N -> b.defers = a.defers -> (∀ s, (∀ (i : Nat) (o : Oper), ops[i]? = some o -> o.dst ≠ some s) -> b.tmps.getD s undef = a.tmps.getD s undef) ->
      (∀ (i : Nat) (o : Oper) (d : Tmp), ops[i]? = some o -> o.dst = some d -> G i (b.tmps.getD d undef) v) -> Q .normal b v) :
    ∀ (fuel : Nat) (listed : Array Bool) (b : Act) (v : World), left listed <= fuel -> J ops N G a w listed b v -> wpAny P .any ops Q fuel listed b v := by
 have hfin : ∀ (listed : Array Bool) (b : Act) (v : World), J ops N G a w listed b v -> Region.ready .any ops listed = [] -> Q .normal b v := by
  intro listed b v hJ hr
  refine hend b v hJ.below hJ.size hJ.defers hJ.rest ?_
  have hall : ∀ i : Nat, i < ops.size -> listed.getD i false = true := by
   intro i
   induction i using Nat.strongRecOn with
   | ind i ih =>
    intro hi
    cases hb : listed.getD i false with
    | true => rfl
    | false =>
     have hmem : i ∈ Region.ready .any ops listed := by
      refine mem_ready.2 ⟨?_, ops[i], Array.getElem?_eq_getElem hi, fun e he _ => ?_⟩
      ·rw [Array.getD_eq_getD_getElem?, Array.getElem?_eq_getElem (by rw [hJ.lsize]; exact hi)] at hb ⊢
       exact hb
      ·have hlt := (ok_at hok (Array.getElem?_eq_getElem hi)).2.2 e he
       exact ih e.on hlt (by omega)
     rw [hr] at hmem
     cases hmem
  exact fun i o d ho hd => hJ.good i o d ho hd (hall i (aE.1 ho).1)
 intro fuel
 induction fuel with
 | zero =>
  intro listed b v hl hJ
  have hr : Region.ready .any ops listed = [] := by
   refine List.eq_nil_iff_forall_not_mem.2 fun i hi => ?_
   have := (mem_ready.1 hi).1
   rw [left_zero (by omega) i] at this
   cases this
  exact ⟨hr, hfin _ _ _ hJ hr⟩
 | succ fuel ih =>
  intro listed b v hl hJ
  refine ⟨hfin _ _ _ hJ, fun i hi => ?_⟩
  obtain ⟨h0, o, ho, hdep⟩ := mem_ready.1 hi
  obtain ⟨hg, ⟨d, hd, hdN⟩, hback⟩ := ok_at hok ho
  have hilt := (aE.1 ho).1
  unfold wpOp
  rw [ho]
  dsimp only
  have hwant : Region.wanted o (yielded ops b.tmps) = true := by
   unfold Region.wanted
   cases hgo : o.guard with
   | none => rfl
   | some g =>
    obtain ⟨k, t⟩ := g
    obtain ⟨e, he, hek, heb⟩ := hg _ hgo
    dsimp only at hek ⊢
    have hlk := hdep e he heb
    have hlt : e.on < ops.size := by have := hback e he; omega
    obtain ⟨_, ⟨d', hd', hdN'⟩, _⟩ := ok_at hok (Array.getElem?_eq_getElem hlt)
    have hx := hgd i o k t ho hgo _ _ (hek ▸ hJ.good e.on _ d' (Array.getElem?_eq_getElem hlt) hd' hlk)
    unfold yielded
    rw [<- hek, Array.getElem?_eq_getElem hlt]
    simp only [Option.bind_some, hd']
    have hs2 : d' < b.tmps.size := by rw [hJ.size]; exact hdN'
    rw [Array.getD_eq_getD_getElem?, Array.getElem?_eq_getElem hs2] at hx
    rw [Array.getElem?_eq_getElem hs2]
    simp only [Option.getD_some] at hx
    rw [hx]
    simp
  rw [if_pos hwant]
  refine .inl ?_
  refine Oper.wp_mono ?_ (hstep i o b v ho hJ.below hJ.rest fun e he hb o' d' ho' hd' => hJ.good e.on o' d' ho' hd' (hdep e he hb))
  rintro b' v' ⟨x, rfl, hG, hb⟩
  refine ih _ _ _ (by have := left_set h0; omega) ?_
  rw [hd]
  refine ⟨hJ.below.trans (hb.mono hJ.below.size), by rw [put_size]; exact hJ.size, by rw [put_defers]; exact hJ.defers, ?_, ?_, by simpa using hJ.lsize⟩
  ·intro s hs
   rw [put_other _ _ _ _ (fun e => hs i o ho (by rw [hd, e]))]
   exact hJ.rest s hs
  ·intro j oj dj hoj hdj hlj
   by_cases e : i = j
   ·subst e
    rw [ho] at hoj
    obtain rfl := Option.some.inj hoj
    rw [hd] at hdj
    obtain rfl := Option.some.inj hdj
    rw [put_same _ _ _ (by rw [hJ.size]; exact hdN)]
    exact hG
   ·have hap := ok_apart hok ho hoj e
    rw [hd, hdj] at hap
    rw [put_other _ _ _ _ (fun h => hap (by rw [h]))]
    refine hkeep _ _ _ _ (hJ.good j oj dj hoj hdj ?_) hb
    rw [getD_set_ne false e] at hlj
    exact hlj
theorem region_grow {P : Program} {ops : Array Oper} {id : Nat} {Q : Exit -> Act -> World -> Prop} {a : Act} {w : World} (hm : P.follows .mixedOrders = true) (G : Nat -> Value -> World -> Prop) (hok : ok ops a.tmps.size = true)
    (hkeep : ∀ i x v v', G i x v -> Below v.heap.size v v' -> G i x v')
    (hgd : ∀ (i : Nat) (o : Oper) (k : Nat) (t : Bool), ops[i]? = some o -> o.guard = some (k, t) -> ∀ x v, G k x v -> x = .bool t)
    (hstep : ∀ (i : Nat) (o : Oper) (b : Act) (v : World), ops[i]? = some o -> Below w.heap.size w v -> (∀ s, (∀ (i : Nat) (o : Oper), ops[i]? = some o -> o.dst ≠ some s) -> b.tmps.getD s undef = a.tmps.getD s undef) ->
      (∀ e ∈ o.after, Region.binds .any e = true -> ∀ (o' : Oper) (d : Tmp), ops[e.on]? = some o' -> o'.dst = some d -> G e.on (b.tmps.getD d undef) v) -> Does P G Q i o b v)
    (hend : ∀ b v, Below w.heap.size w v -> b.tmps.size = a.tmps.size -> b.defers = a.defers -> (∀ s, (∀ (i : Nat) (o : Oper), ops[i]? = some o -> o.dst ≠ some s) -> b.tmps.getD s undef = a.tmps.getD s undef) ->
      (∀ (i : Nat) (o : Oper) (d : Tmp), ops[i]? = some o -> o.dst = some d -> G i (b.tmps.getD d undef) v) -> Q .normal b v) :
    (Code.region id ops true).wp P Q a w := by
 refine wp_region_any hm (any_grow (a := a) (w := w) hok hkeep hgd hstep hend _ _ _ _ ?_ ⟨(Below.refl _ _).drew, rfl, rfl, fun _ _ => rfl, ?_, by simp⟩)
 ·unfold left
  simp
 ·intro i o d ho _ hl
  have hi := (aE.1 ho).1
  simp [Array.getD_eq_getD_getElem?, hi] at hl
section
variable {P : Program} {G : Nat -> Value -> World -> Prop} {Q : Exit -> Act -> World -> Prop} {i : Nat} {o : Oper} {b : Act} {v : World}
theorem does_pick {x y z : Operand} {t : Bool} (ho : o.op = .pick x y z) (hx : b.eval x = .bool t) (hG : G i (if t then b.eval y else b.eval z) v) : Does P G Q i o b v := does_pure _ (by simp only [execOp, ho]; rw [hx]; cases t <;> simp [asBool]) hG
theorem does_conv {s d : TypeId} {x : Operand} {y : Value} (ho : o.op = .convert s d x) (h : (convert s d (b.eval x)).run P v = .ok y v) (hG : G i y v) : Does P G Q i o b v := does_pure y (by simp [execOp, ho, h, Result.andThen]) hG
end
end Go.Proofs.YtffheegeaghfjaaGreatDoor.Rg
namespace Go.Proofs.YtffheegeaghfjaaGreatDoor.Rf
open Go.RowKit
section
variable {P : Program} {Q : Exit -> Act -> World -> Prop}
end
end Go.Proofs.YtffheegeaghfjaaGreatDoor.Rf
namespace Go.Proofs.YtffheegeaghfjaaGreatDoor.Rgt
open Go.RowKit
section
variable {P : Program} {md : Region.Mode} {ops : Array Oper} {Q : Exit -> Act -> World -> Prop} {S : World -> Prop} {T : Nat -> Bool}
variable {fuel : Nat} {listed : Array Bool} {a : Act} {w : World}
end
section
variable {P : Program} {ops : Array Oper} {Q : Exit -> Act -> World -> Prop} {a : Act} {w : World}
end
end Go.Proofs.YtffheegeaghfjaaGreatDoor.Rgt

namespace Go.Proofs.YtffheegeaghfjaaGreatDoor
open Go.ChangeShapes Go.WideShapes Go.ChangeAt Go.RowKit
theorem open_row {H : Type} {enc : TypeId × Value -> H} {P : Program} {W : World} {r : Reach} {base : Nat} {t e : TypeId} {k : IntKind} {v : Value} {d : DataW H} {p : List MemPlace}
    (ht : P.underlying t = some (.slice e)) (he : P.underlying e = some (.int k)) (hc : P.cellsOf e = 1) (hval : Value.okWide P W r base t v)
    (h : DataW.Trod enc P W 0 (fun _ => true) true t v d p) (hlt : ∀ x ∈ p, x.block < W.heap.size) :
    ∃ (o : Option Addr) (c : Nat) (zs : List Int), v = .slice o zs.length c /\ RowIs W o (zs.map (.int k)) c /\ (∀ n ∈ zs, (Lit.int k n).wf = true) /\
      ((zs = [] /\ d = .nil) ∨ ∃ rest, d = .slice (lits k zs) (lits k rest)) := by
 obtain ⟨a0, len, cap, rfl⟩ := okWide_slice ht hval
 obtain ⟨fuel, hf⟩ := h
 rcases open_ints ht he hc hf with ⟨hcs, hx⟩ | ⟨a, len', cap', zs, hcs, _, hl, hm, hz, hx, hcell, hwz⟩
 ·simp [Value.cells] at hcs
  obtain ⟨rfl, rfl, rfl⟩ := hcs
  simp only [Prod.mk.injEq] at hx
  obtain ⟨rfl, rfl⟩ := hx
  exact ⟨none, 0, [], rfl, ⟨Nat.le_refl _, Nat.zero_le _, fun _ => rfl, fun h => absurd h (by simp)⟩, fun n hn => (by cases hn), Or.inl ⟨rfl, rfl⟩⟩
 ·simp [Value.cells] at hcs
  obtain ⟨rfl, rfl, rfl⟩ := hcs
  simp only [Prod.mk.injEq] at hx
  obtain ⟨rfl, rfl⟩ := hx
  simp only [if_true] at hz
  have hlen : (zs.take len).length = len := by simp; omega
  refine ⟨some a, cap, zs.take len, by rw [hlen], ⟨by simp; omega, hm, (fun h => by cases h), fun h0 => ?_⟩, fun n hn => hwz n (List.mem_of_mem_take hn), Or.inr ⟨_, rfl⟩⟩
  have h1 : 0 < len := by simp at h0; omega
  obtain ⟨b, off, spot⟩ := a
  have hspot : spot = none := by simpa [Addr.add] using World.cell?_spot (hcell 0 (by omega))
  subst hspot
  refine ⟨b, off, rfl, hlt (.cell b off) (MemPlace.mem_row.2 ⟨0, by omega, by simp⟩), fun i v hv => ?_⟩
  have hi : i < len := by
   have := (List.getElem?_eq_some_iff.1 hv).1
   simp at this; omega
  have hc2 := hcell i (by omega)
  rw [add_plain] at hc2
  rw [hc2, <- hv]
  have hi2 : i < zs.length := by omega
  rw [List.getElem?_map, List.getElem?_take_of_lt hi]
  simp [List.getElem?_eq_getElem hi2]
theorem open_bytes {H : Type} {enc : TypeId × Value -> H} {P : Program} {W : World} {r : Reach} {base : Nat} {t e : TypeId} {v : Value} {d : DataW H} {p : List MemPlace}
    (ht : P.underlying t = some (.slice e)) (he : P.underlying e = some (.int .u8)) (hc : P.cellsOf e = 1) (hval : Value.okWide P W r base t v)
    (h : DataW.Trod enc P W 0 (fun _ => true) true t v d p) (hlt : ∀ x ∈ p, x.block < W.heap.size) :
    ∃ (o : Option Addr) (c : Nat) (z : List UInt8), v = .slice o z.length c /\ RowIs W o (bytesV z) c /\ ((z = [] /\ d = .nil) ∨ ∃ rest, d = .slice (lits .u8 (z.map fun x => (x.toNat : Int))) (lits .u8 rest)) := by
 obtain ⟨o, c, zs, rfl, hr, hw, hd⟩ := open_row ht he hc hval h hlt
 have e : zs = (zs.map fun n => UInt8.ofNat n.toNat).map fun x => (x.toNat : Int) := by
  rw [List.map_map]
  conv => lhs; rw [<- List.map_id zs]
  refine List.map_congr_left fun n hn => ?_
  have := u8_wf (hw n hn)
  simp only [id_eq, Function.comp_apply, UInt8.toNat_ofNat']
  omega
 refine ⟨o, c, zs.map fun n => UInt8.ofNat n.toNat, by simp, ?_, ?_⟩
 ·have e2 : bytesV (zs.map fun n => UInt8.ofNat n.toNat) = zs.map (.int .u8) := by
   unfold bytesV
   conv => rhs; rw [e, List.map_map]
   rfl
  rw [e2]; exact hr
 ·rcases hd with ⟨rfl, rfl⟩ | ⟨rest, rfl⟩
  ·exact Or.inl ⟨rfl, rfl⟩
  ·exact Or.inr ⟨rest, by rw [<- e]⟩
end Go.Proofs.YtffheegeaghfjaaGreatDoor

namespace Go.Proofs.YtffheegeaghfjaaGreatDoor
open Go.RowKit
theorem conv_rv {p : List UInt8} {x : Value} {v : World} (hp : RowV p x v) : (convert 22 9 x).run Tryz.prog v = .ok (.string ⟨p.toArray⟩) v := by
 obtain ⟨o, c, rfl, hp⟩ := hp
 exact run_string hp Tryz.underlying22 Tryz.underlying5 Tryz.underlying9 _
end Go.Proofs.YtffheegeaghfjaaGreatDoor

namespace Go.Proofs.YtffheegeaghfjaaGreatDoor
open Go.RowKit
theorem does_slice_head {G : Nat -> Value -> World -> Prop} {Q : Exit -> Act -> World -> Prop} {i : Nat} {o : Oper} {b : Act} {v : World} {x y : Operand} {z : List UInt8} {n : Nat} (ho : o.op = .slice 22 x none (some y) none) (hx : RowV z (b.eval x) v) (hy : b.eval y = .int .i64 (n : Int)) (hn : n <= z.length)
    (hG : ∀ p, RowV (z.take n) p v -> G i p v) : Rg.Does Tryz.prog G Q i o b v := by
 obtain ⟨o1, c1, e, h⟩ := hx
 have ht := h.take n
 have hl : (z.take n).length = n := by rw [List.length_take]; omega
 refine Rg.does_pure (.slice o1 n c1) ?_ (hG _ ⟨o1, c1, by rw [hl], ht⟩)
 have hle := h.le
 simp only [bytesV_length] at hle
 have hn0 : (0 : Int) <= (n : Int) := by omega
 have hn1 : (n : Int) <= (c1 : Int) := by omega
 have hn2 : n <= c1 := by omega
 simp only [execOp, ho, Option.map, e, hy]
 go_simp
theorem str_beq (a b : List UInt8) : ((⟨a.toArray⟩ : ByteArray).toList == (⟨b.toArray⟩ : ByteArray).toList) = (a == b) := by
 rw [ByteArray.toList_eq, ByteArray.toList_eq]
end Go.Proofs.YtffheegeaghfjaaGreatDoor

namespace Go.Proofs.YtffheegeaghfjaaGreatDoor
open Go.RowKit
def Tg16G (k Y : List UInt8) (n : Int) (z : Bool) (i : Nat) (x : Value) (v : World) : Prop :=
 match i with
 | 0 | 14 | 18 => RowV (Y) (x) v
 | 1 => (x) = .int .i64 16
 | 4 | 8 | 13 => (x) = .int .i64 n
 | 12 => RowV (k) (x) v
 | 15 => RowV (Y.take 8) (x) v
 | 16 => RowV (Da.tg16 k n (Y.take 8)) (x) v
 | 17 => (x) = .string ⟨(Da.tg16 k n (Y.take 8)).toArray⟩
 | 19 => (x) = .string ⟨(Y).toArray⟩
 | 20 | 21 | 22 => (x) = .bool z
 | _ => (x) = .bool true
theorem Tg16G.later {k Y : List UInt8} {n : Int} {z : Bool} (i : Nat) (x : Value) (v v' : World) (h : Tg16G k Y n z i x v) (hb : Below v.heap.size v v') : Tg16G k Y n z i x v' := by
 unfold Tg16G at *
 split at h <;> first | exact h | exact h.later hb
theorem str_eql16 (a b : List UInt8) (W : World) : (binOp .eql 9 (.string ⟨a.toArray⟩) (.string ⟨b.toArray⟩)).run Tryz.prog W = .ok (.bool (decide (a = b))) W := by
 have hu := Tryz.underlying9
 have h := str_beq a b
 go_simp <;> exact beq_dec16 a b
theorem rtagged16_any (k Y : List UInt8) (ok oy : Option Addr) (ck cy : Nat) (n : Int) (w : World) (hKR : RowIs w ok (bytesV k) ck) (hBR : RowIs w oy (bytesV Y) cy) (hV : Rds w) (hkl : k.length <= 90000) (hbl : Y.length <= 60) (hn : in64 n) :
    Calls Tryz.prog 28 #[.slice ok k.length ck, .int .i64 n, .slice oy Y.length cy] w fun e w' => e = .returned (.bool (Da.tgd16 k n Y)) /\ Below w.heap.size w w' := by
 have hK : RowV k (.slice ok k.length ck) w := ⟨ok, ck, rfl, hKR⟩
 have hY : RowV Y (.slice oy Y.length cy) w := ⟨oy, cy, rfl, hBR⟩
 obtain ⟨lk, hlk⟩ : ∃ lk, k.length = lk := ⟨_, rfl⟩
 rw [hlk] at hK ⊢
 have hle := hBR.le
 have hcap := hBR.cap
 rw [bytesV_length] at hle
 unfold maxLen at hcap
 by_cases h16 : Y.length = 16
 ·have ht0 : Da.tgd16 k n Y = (decide (0 <= n) && (decide (n < 512) && decide (Da.tg16 k n (Y.take 8) = Y))) := by unfold Da.tgd16; rw [h16]; rfl
  rw [ht0]
  rw [h16] at hY hle ⊢
  by_cases hn0 : n < 0
  ·have hq2 : decide (n >= 0) = false := decide_eq_false (by omega)
   have hq2' : decide (0 <= n) = false := decide_eq_false (by omega)
   have ht : (decide (0 <= n) && (decide (n < 512) && decide (Da.tg16 k n (Y.take 8) = Y))) = false := by rw [hq2']; rfl
   rw [ht]
   clear hK hY hKR hBR hV ht ht0 hn0 hle hcap hbl h16 hkl hlk hn
   go_enter Tryz.func28, Tryz.ntmps28
   go_upto_region 1 with fail
   go_quiet (fail)
   go_wp2_with fail
   go_ret
   first | exact ⟨rfl, Kit.dn' _ _⟩ | exact ⟨rfl, (Below.refl _ _).drew⟩
  have hq2 : decide (n >= 0) = true := decide_eq_true (by omega)
  have hq2' : decide (0 <= n) = true := decide_eq_true (by omega)
  by_cases hn5 : 512 <= n
  ·have hq3 : decide (n < 512) = false := decide_eq_false (by omega)
   have ht : (decide (0 <= n) && (decide (n < 512) && decide (Da.tg16 k n (Y.take 8) = Y))) = false := by rw [hq3, hq2']; rfl
   rw [ht]
   clear hK hY hKR hBR hV ht ht0 hn0 hn5 hle hcap hbl h16 hkl hlk hn
   go_enter Tryz.func28, Tryz.ntmps28
   go_upto_region 1 with fail
   go_quiet (fail)
   go_wp2_with fail
   go_ret
   first | exact ⟨rfl, Kit.dn' _ _⟩ | exact ⟨rfl, (Below.refl _ _).drew⟩
  have hq3 : decide (n < 512) = true := decide_eq_true (by omega)
  rw [hq2', hq3, Bool.true_and, Bool.true_and]
  obtain ⟨z, hz⟩ : ∃ z, decide (Da.tg16 k n (Y.take 8) = Y) = z := ⟨_, rfl⟩
  rw [hz]
  clear ht0 hn0 hn5 hKR hBR hle hcap hbl
  go_enter Tryz.func28, Tryz.ntmps28
  go_upto_region 1 with fail
  refine Rg.region_grow (by kernel_rfl) (Tg16G k Y n z) (by kernel_rfl) Tg16G.later ?gd ?step ?fin
  case gd =>
   intro i op k t ho hg x v hG
   have hi := (aE.1 ho).1
   match i, hi with
   | 0, _ =>
    obtain rfl := Option.some.inj ho
    cases hg
   | 1, _ =>
    obtain rfl := Option.some.inj ho
    cases hg
   | 2, _ =>
    obtain rfl := Option.some.inj ho
    cases hg
   | 3, _ =>
    obtain rfl := Option.some.inj ho
    cases hg
   | 4, _ =>
    obtain rfl := Option.some.inj ho
    obtain ⟨rfl, rfl⟩ : 3 = k /\ true = t := by simpa using hg
    exact hG
   | 5, _ =>
    obtain rfl := Option.some.inj ho
    obtain ⟨rfl, rfl⟩ : 3 = k /\ true = t := by simpa using hg
    exact hG
   | 6, _ =>
    obtain rfl := Option.some.inj ho
    cases hg
   | 7, _ =>
    obtain rfl := Option.some.inj ho
    cases hg
   | 8, _ =>
    obtain rfl := Option.some.inj ho
    obtain ⟨rfl, rfl⟩ : 7 = k /\ true = t := by simpa using hg
    exact hG
   | 9, _ =>
    obtain rfl := Option.some.inj ho
    obtain ⟨rfl, rfl⟩ : 7 = k /\ true = t := by simpa using hg
    exact hG
   | 10, _ =>
    obtain rfl := Option.some.inj ho
    cases hg
   | 11, _ =>
    obtain rfl := Option.some.inj ho
    cases hg
   | 12, _ =>
    obtain rfl := Option.some.inj ho
    obtain ⟨rfl, rfl⟩ : 11 = k /\ true = t := by simpa using hg
    exact hG
   | 13, _ =>
    obtain rfl := Option.some.inj ho
    obtain ⟨rfl, rfl⟩ : 11 = k /\ true = t := by simpa using hg
    exact hG
   | 14, _ =>
    obtain rfl := Option.some.inj ho
    obtain ⟨rfl, rfl⟩ : 11 = k /\ true = t := by simpa using hg
    exact hG
   | 15, _ =>
    obtain rfl := Option.some.inj ho
    obtain ⟨rfl, rfl⟩ : 11 = k /\ true = t := by simpa using hg
    exact hG
   | 16, _ =>
    obtain rfl := Option.some.inj ho
    obtain ⟨rfl, rfl⟩ : 11 = k /\ true = t := by simpa using hg
    exact hG
   | 17, _ =>
    obtain rfl := Option.some.inj ho
    obtain ⟨rfl, rfl⟩ : 11 = k /\ true = t := by simpa using hg
    exact hG
   | 18, _ =>
    obtain rfl := Option.some.inj ho
    obtain ⟨rfl, rfl⟩ : 11 = k /\ true = t := by simpa using hg
    exact hG
   | 19, _ =>
    obtain rfl := Option.some.inj ho
    obtain ⟨rfl, rfl⟩ : 11 = k /\ true = t := by simpa using hg
    exact hG
   | 20, _ =>
    obtain rfl := Option.some.inj ho
    obtain ⟨rfl, rfl⟩ : 11 = k /\ true = t := by simpa using hg
    exact hG
   | 21, _ =>
    obtain rfl := Option.some.inj ho
    cases hg
   | 22, _ =>
    obtain rfl := Option.some.inj ho
    cases hg
   | n + 23, h => exact absurd h (by simp)
  case step =>
   intro i op b v ho hb hrest hdep
   have r2 : b.eval (.tmp 2) = .slice oy 16 cy := hrest 2 (Rg.free_spec (by kernel_rfl))
   have r1 : b.eval (.tmp 1) = .int .i64 n := hrest 1 (Rg.free_spec (by kernel_rfl))
   have r0 : b.eval (.tmp 0) = .slice ok lk ck := hrest 0 (Rg.free_spec (by kernel_rfl))
   have hi := (aE.1 ho).1
   match i, hi with
   | 0, _ =>
    obtain rfl := Option.some.inj ho
    have d1 : RowV (Y) (b.eval (.tmp 2)) v := by rw [r2]; exact hY.later hb
    exact Rg.does_move rfl d1
   | 1, _ =>
    obtain rfl := Option.some.inj ho
    have d1 : RowV (Y) (b.eval (.tmp 7)) v := hdep ⟨0, .data⟩ (by simp) rfl _ _ rfl rfl
    obtain ⟨o3, c3, e3, hr3⟩ := d1
    rw [h16] at e3
    have f1 : b.tmps[7]?.getD undef = _ := (show _ = b.eval (.tmp 7) by simp [Act.eval]).trans e3
    refine Rg.does_pure (.int .i64 16) ?_ rfl
    simp only [execOp]
    go_simp
   | 2, _ =>
    obtain rfl := Option.some.inj ho
    have d1 : (b.eval (.tmp 8)) = .int .i64 16 := hdep ⟨1, .data⟩ (by simp) rfl _ _ rfl rfl
    have f1 : b.tmps[8]?.getD undef = _ := (show _ = b.eval (.tmp 8) by simp [Act.eval]).trans d1
    refine Rg.does_pure (.bool true) ?_ rfl
    simp only [execOp]
    go_simp
   | 3, _ =>
    obtain rfl := Option.some.inj ho
    have d1 : (b.eval (.tmp 9)) = .bool true := hdep ⟨2, .data⟩ (by simp) rfl _ _ rfl rfl
    exact Rg.does_move rfl d1
   | 4, _ =>
    obtain rfl := Option.some.inj ho
    have d1 : b.eval (.tmp 1) = .int .i64 n := r1
    exact Rg.does_move rfl d1
   | 5, _ =>
    obtain rfl := Option.some.inj ho
    have d1 : (b.eval (.tmp 11)) = .int .i64 n := hdep ⟨4, .data⟩ (by simp) rfl _ _ rfl rfl
    have f1 : b.tmps[11]?.getD undef = _ := (show _ = b.eval (.tmp 11) by simp [Act.eval]).trans d1
    refine Rg.does_pure (.bool true) ?_ rfl
    have q := hq2
    simp only [execOp]
    go_simp
   | 6, _ =>
    obtain rfl := Option.some.inj ho
    have d1 : (b.eval (.tmp 10)) = .bool true := hdep ⟨3, .data⟩ (by simp) rfl _ _ rfl rfl
    have d2 : (b.eval (.tmp 12)) = .bool true := hdep ⟨5, .data⟩ (by simp) rfl _ _ rfl rfl
    exact Rg.does_pick rfl d1 d2
   | 7, _ =>
    obtain rfl := Option.some.inj ho
    have d1 : (b.eval (.tmp 13)) = .bool true := hdep ⟨6, .data⟩ (by simp) rfl _ _ rfl rfl
    exact Rg.does_move rfl d1
   | 8, _ =>
    obtain rfl := Option.some.inj ho
    have d1 : b.eval (.tmp 1) = .int .i64 n := r1
    exact Rg.does_move rfl d1
   | 9, _ =>
    obtain rfl := Option.some.inj ho
    have d1 : (b.eval (.tmp 15)) = .int .i64 n := hdep ⟨8, .data⟩ (by simp) rfl _ _ rfl rfl
    have f1 : b.tmps[15]?.getD undef = _ := (show _ = b.eval (.tmp 15) by simp [Act.eval]).trans d1
    refine Rg.does_pure (.bool true) ?_ rfl
    have q := hq3
    simp only [execOp]
    go_simp
   | 10, _ =>
    obtain rfl := Option.some.inj ho
    have d1 : (b.eval (.tmp 14)) = .bool true := hdep ⟨7, .data⟩ (by simp) rfl _ _ rfl rfl
    have d2 : (b.eval (.tmp 16)) = .bool true := hdep ⟨9, .data⟩ (by simp) rfl _ _ rfl rfl
    exact Rg.does_pick rfl d1 d2
   | 11, _ =>
    obtain rfl := Option.some.inj ho
    have d1 : (b.eval (.tmp 17)) = .bool true := hdep ⟨10, .data⟩ (by simp) rfl _ _ rfl rfl
    exact Rg.does_move rfl d1
   | 12, _ =>
    obtain rfl := Option.some.inj ho
    have d1 : RowV (k) (b.eval (.tmp 0)) v := by rw [r0]; exact hK.later hb
    exact Rg.does_move rfl d1
   | 13, _ =>
    obtain rfl := Option.some.inj ho
    have d1 : b.eval (.tmp 1) = .int .i64 n := r1
    exact Rg.does_move rfl d1
   | 14, _ =>
    obtain rfl := Option.some.inj ho
    have d1 : RowV (Y) (b.eval (.tmp 2)) v := by rw [r2]; exact hY.later hb
    exact Rg.does_move rfl d1
   | 15, _ =>
    obtain rfl := Option.some.inj ho
    have d1 : RowV (Y) (b.eval (.tmp 21)) v := hdep ⟨14, .data⟩ (by simp) rfl _ _ rfl rfl
    exact does_slice_head (n := 8) rfl d1 rfl (by omega) fun p h => h
   | 16, _ =>
    obtain rfl := Option.some.inj ho
    have d1 : RowV (k) (b.eval (.tmp 19)) v := hdep ⟨12, .data⟩ (by simp) rfl _ _ rfl rfl
    have d2 : (b.eval (.tmp 20)) = .int .i64 n := hdep ⟨13, .data⟩ (by simp) rfl _ _ rfl rfl
    have d3 : RowV (Y.take 8) (b.eval (.tmp 22)) v := hdep ⟨15, .data⟩ (by simp) rfl _ _ rfl rfl
    refine Rg.does_fn rfl (enters_of Tryz.func29 (by kernel_rfl) rfl) (args := #[b.eval (.tmp 19), b.eval (.tmp 20), b.eval (.tmp 22)]) (by simp) ?_
    rw [d2]
    exact rtag16_rv d1 d3 (hV.later hb) hkl (by rw [List.length_take]; omega)
   | 17, _ =>
    obtain rfl := Option.some.inj ho
    have d1 : RowV (Da.tg16 k n (Y.take 8)) (b.eval (.tmp 23)) v := hdep ⟨16, .data⟩ (by simp) rfl _ _ rfl rfl
    exact Rg.does_conv rfl (conv_rv d1) (rfl)
   | 18, _ =>
    obtain rfl := Option.some.inj ho
    have d1 : RowV (Y) (b.eval (.tmp 2)) v := by rw [r2]; exact hY.later hb
    exact Rg.does_move rfl d1
   | 19, _ =>
    obtain rfl := Option.some.inj ho
    have d1 : RowV (Y) (b.eval (.tmp 25)) v := hdep ⟨18, .data⟩ (by simp) rfl _ _ rfl rfl
    exact Rg.does_conv rfl (conv_rv d1) (rfl)
   | 20, _ =>
    obtain rfl := Option.some.inj ho
    have d1 : (b.eval (.tmp 24)) = .string ⟨(Da.tg16 k n (Y.take 8)).toArray⟩ := hdep ⟨17, .data⟩ (by simp) rfl _ _ rfl rfl
    have d2 : (b.eval (.tmp 26)) = .string ⟨(Y).toArray⟩ := hdep ⟨19, .data⟩ (by simp) rfl _ _ rfl rfl
    have f1 : b.tmps[24]?.getD undef = _ := (show _ = b.eval (.tmp 24) by simp [Act.eval]).trans d1
    have f2 : b.tmps[26]?.getD undef = _ := (show _ = b.eval (.tmp 26) by simp [Act.eval]).trans d2
    refine Rg.does_pure (.bool z) ?_ rfl
    have hu := Tryz.underlying9
    have h := str_beq (Da.tg16 k n (Y.take 8)) Y
    simp only [execOp]
    go_simp
    rw [beq_dec16]
    exact hz
   | 21, _ =>
    obtain rfl := Option.some.inj ho
    have d1 : (b.eval (.tmp 18)) = .bool true := hdep ⟨11, .data⟩ (by simp) rfl _ _ rfl rfl
    have d2 : (b.eval (.tmp 27)) = .bool z := hdep ⟨20, .data⟩ (by simp) rfl _ _ rfl rfl
    exact Rg.does_pick rfl d1 d2
   | 22, _ =>
    obtain rfl := Option.some.inj ho
    have d1 : (b.eval (.tmp 28)) = .bool z := hdep ⟨21, .data⟩ (by simp) rfl _ _ rfl rfl
    exact Rg.does_assign rfl d1
   | n + 23, h => exact absurd h (by simp)
  case fin =>
   intro b v2 hb2 hs hd hrest hall
   have h6 : b.tmps.getD 6 undef = .bool z := hall 22 _ 6 rfl rfl
   have HB := Lh hb2
   go_wp2
   refine bodyPost_ret (results_tmp rfl _ _ _) hd ?_
   exact ⟨by rw [h6], HB.out⟩
 ·have ht : Da.tgd16 k n Y = false := by unfold Da.tgd16; rw [decide_eq_false h16]; rfl
  rw [ht]
  obtain ⟨L, hL⟩ : ∃ L, Y.length = L := ⟨_, rfl⟩
  rw [hL] at h16 hle hbl ⊢
  have hq1 : ((L : Int) == 16) = false := by rw [beq_eq_false_iff_ne]; omega
  have hq1' : decide ((L : Int) = 16) = false := decide_eq_false (by omega)
  clear hK hY hKR hBR hV ht hkl hlk hn hL
  go_enter Tryz.func28, Tryz.ntmps28
  go_upto_region 1 with fail
  go_quiet (fail)
  go_wp2_with fail
  go_ret
  first | exact ⟨rfl, Kit.dn' _ _⟩ | exact ⟨rfl, (Below.refl _ _).drew⟩
theorem rtagged16_rv {k Y : List UInt8} {x y : Value} {n : Int} {v : World} (hK : RowV k x v) (hB : RowV Y y v) (hV : Rds v) (hkl : k.length <= 90000) (hbl : Y.length <= 60) (hn : in64 n) :
    Calls Tryz.prog 28 #[x, .int .i64 n, y] v fun e v' => e = .returned (.bool (Da.tgd16 k n Y)) /\ Below v.heap.size v v' := by
 obtain ⟨o1, c1, rfl, h1⟩ := hK
 obtain ⟨o2, c2, rfl, h2⟩ := hB
 exact rtagged16_any k Y o1 o2 c1 c2 n v h1 h2 hV hkl hbl hn
end Go.Proofs.YtffheegeaghfjaaGreatDoor
