/- Sx16 -/
import Derived.Test.YtffheegeaghfjaaGreatDoorShu
import Derived.Test.YtffheegeaghfjaaGreatDoorPl15
import Derived.Test.YtffheegeaghfjaaGreatDoorTo
set_option linter.unusedVariables false
set_option linter.unusedSimpArgs false
set_option maxRecDepth 100000
set_option maxHeartbeats 8000000
namespace Go.Proofs.YtffheegeaghfjaaGreatDoor
open Go.RowKit
def Da.tg16 (k : List UInt8) (n : Int) (b : List UInt8) : List UInt8 := b ++ (Da.hmac k (Da.num8 n ++ b)).take 8
def Da.stp16 (k : List UInt8) (f : Nat -> Nat) (R : Nat -> List UInt8) (n i : Nat) : List (List UInt8) := (List.range n).map fun q => if f q < i then Da.tg16 k (q : Int) (R (f q)) else []
@[simp] theorem Da.stp16_length (k : List UInt8) (f : Nat -> Nat) (R : Nat -> List UInt8) (n i : Nat) : (Da.stp16 k f R n i).length = n := by simp [Da.stp16]
theorem Da.stp16_zero (k : List UInt8) (f : Nat -> Nat) (R : Nat -> List UInt8) (n : Nat) : Da.stp16 k f R n 0 = List.replicate n [] := by
 apply List.ext_getElem (by simp)
 intro i h1 h2
 simp [Da.stp16]
theorem Da.stp16_at (k : List UInt8) (f : Nat -> Nat) (R : Nat -> List UInt8) (n i q : Nat) (hq : q < n) : bi (Da.stp16 k f R n i) q = if f q < i then Da.tg16 k (q : Int) (R (f q)) else [] := by
 unfold bi
 rw [List.getD_eq_getElem?_getD]
 simp [Da.stp16, hq]
theorem Da.stp16_succ (k : List UInt8) (f t : Nat -> Nat) (R : Nat -> List UInt8) (n i : Nat) (hft : f (t i) = i) (htf : ∀ q, q < n -> t (f q) = q) :
    (Da.stp16 k f R n i).set (t i) (Da.tg16 k (t i : Int) (R i)) = Da.stp16 k f R n (i + 1) := by
 apply List.ext_getElem (by simp)
 intro q h1 h2
 have hq : q < n := by simpa using h2
 rw [List.getElem_set]
 by_cases e : t i = q
 ·subst e
  simp [Da.stp16, hft]
 ·rw [if_neg e]
  have hne : f q ≠ i := fun h => e (by rw [<- h]; exact htf q hq)
  simp only [Da.stp16, List.getElem_map, List.getElem_range]
  by_cases h : f q < i
  ·rw [if_pos h, if_pos (by omega)]
  ·rw [if_neg h, if_neg (by omega)]
def Da.key16 (K : List UInt8) (N : Int) (j : Nat) : List UInt8 := bi (Da.keysL K N) j
def Da.raw16 (K : List UInt8) (N : Int) (F : List UInt8) (i : Nat) : List UInt8 :=
 if i < (allB F).length then Da.mk1 (Da.key16 K N 0) (i : Int) (bi (allB F) i) else Da.sb (Da.key16 K N 2) ((i - (allB F).length : Nat) : Int)
def Da.n16 (p : Pm15) : Nat := Da.tot15 p.sz + p.se.toNat
def Da.to16 (K : List UInt8) (N : Int) (p : Pm15) (i : Nat) : Nat := Da.pto (Da.key16 K N 1) (Da.n16 p) i
def Da.fr16 (K : List UInt8) (N : Int) (p : Pm15) (i : Nat) : Nat := Da.pfrom (Da.key16 K N 1) (Da.n16 p) i
def Da.st16 (K : List UInt8) (N : Int) (F : List UInt8) (p : Pm15) (i : Nat) : List (List UInt8) := Da.stp16 (Da.key16 K N 3) (Da.fr16 K N p) (Da.raw16 K N F) (Da.n16 p) i
def Da.all16 (K : List UInt8) (N : Int) (F : List UInt8) (p : Pm15) : List (List UInt8) := Da.st16 K N F p (Da.n16 p)
def Da.rdy16 (K : List UInt8) (N : Int) (p : Pm15) : Nat := if Da.bad15 p = 0 then Da.abad (Da.isMas K.length) (Da.inR N) else Da.err15 (Da.bad15 p)
def Da.sbad16 (K : List UInt8) (N : Int) (F : List UInt8) (p : Pm15) : Nat := if Da.bad15 p = 0 then (if (F.length : Int) = p.sz then Da.abad (Da.isMas K.length) (Da.inR N) else 8) else Da.err15 (Da.bad15 p)
theorem Da.n16_le {p : Pm15} (h : Da.Right15 p) (hs : p.sz <= 400) : Da.n16 p <= 90 /\ 33 <= Da.n16 p := by
 have h0 := h.s0
 have h1 := h.e0
 have h2 := h.e1
 have hn : nbk p.sz.toNat <= 50 := by unfold nbk; split <;> omega
 have hp : 1 <= nbk p.sz.toNat := nbk_pos _
 unfold Da.n16 Da.tot15 totN shpN
 rw [if_neg (by omega)]
 simp only [List.length_cons, List.length_nil]
 omega
theorem Da.n16_le2 {p : Pm15} (h : Da.Right15 p) : Da.n16 p <= 400 /\ 33 <= Da.n16 p := by
 have h0 := h.s0
 have h00 := h.s1
 have h1 := h.e0
 have h2 := h.e1
 have hn := nbk_bd p.sz.toNat (by omega)
 have hp : 1 <= nbk p.sz.toNat := nbk_pos _
 have hb := totN_bd _ hn
 have hl : 33 <= totN (nbk p.sz.toNat) := by
  unfold totN shpN
  split <;> simp only [List.length_cons, List.length_nil] <;> omega
 unfold Da.n16 Da.tot15
 omega
theorem allB_eight16 (F : List UInt8) (i : Nat) (hi : i < (allB F).length) : (bi (allB F) i).length = 8 := by
 refine grps_eight (padL F) (shp F.length) 0 _ ?_
 unfold bi
 rw [List.getD_eq_getElem?_getD, List.getElem?_eq_getElem hi]
 exact List.getElem_mem hi
theorem Da.inR16 (i : Nat) (hi : i <= 1000000) : Da.inR (i : Int) = true := by
 unfold Da.inR
 simp only [Bool.and_eq_true, decide_eq_true_eq]
 omega
theorem Da.mb16 (b : List UInt8) (i : Nat) (h8 : b.length = 8) (hi : i <= 1000000) : Da.mb b (i : Int) = 0 := by
 unfold Da.mb Da.rb
 rw [if_pos h8, Da.inR16 i hi]
 rfl
theorem Da.raw16_length (K : List UInt8) (N : Int) (F : List UInt8) (i : Nat) (hi : i <= 1000000) : (Da.raw16 K N F i).length = 8 := by
 unfold Da.raw16
 split
 ·rename_i h
  have h8 := allB_eight16 F i h
  unfold Da.mk1
  rw [if_pos (Da.mb16 _ i h8 hi)]
  exact Da.mk8_length h8
 ·exact Da.sb_length _ _
theorem Da.tg16_length (k : List UInt8) (n : Int) (b : List UInt8) : (Da.tg16 k n b).length = b.length + 8 := by
 unfold Da.tg16
 rw [List.length_append, List.length_take, Da.hmac_length]
 rfl
theorem Da.fr16_lt {K : List UInt8} {N : Int} {p : Pm15} (hn : Da.n16 p <= 1048576) {q : Nat} (hq : q < Da.n16 p) : Da.fr16 K N p q < Da.n16 p := Da.pfrom_lt hn hq
theorem Da.to16_lt {K : List UInt8} {N : Int} {p : Pm15} (hn : Da.n16 p <= 1048576) {q : Nat} (hq : q < Da.n16 p) : Da.to16 K N p q < Da.n16 p := Da.pto_lt hn hq
theorem Da.fr_to16 {K : List UInt8} {N : Int} {p : Pm15} (hn : Da.n16 p <= 1048576) {q : Nat} (hq : q < Da.n16 p) : Da.fr16 K N p (Da.to16 K N p q) = q := Da.pfrom_pto hn hq
theorem Da.to_fr16 {K : List UInt8} {N : Int} {p : Pm15} (hn : Da.n16 p <= 1048576) {q : Nat} (hq : q < Da.n16 p) : Da.to16 K N p (Da.fr16 K N p q) = q := Da.pto_pfrom hn hq
@[simp] theorem Da.all16_length (K : List UInt8) (N : Int) (F : List UInt8) (p : Pm15) : (Da.all16 K N F p).length = Da.n16 p := Da.stp16_length _ _ _ _ _
theorem Da.all16_at (K : List UInt8) (N : Int) (F : List UInt8) (p : Pm15) (hn : Da.n16 p <= 1048576) (q : Nat) (hq : q < Da.n16 p) : bi (Da.all16 K N F p) q = Da.tg16 (Da.key16 K N 3) (q : Int) (Da.raw16 K N F (Da.fr16 K N p q)) := by
 unfold Da.all16 Da.st16
 rw [Da.stp16_at _ _ _ _ _ _ hq, if_pos (Da.fr16_lt hn hq)]
theorem Da.all16_sixteen (K : List UInt8) (N : Int) (F : List UInt8) (p : Pm15) (hn : Da.n16 p <= 1000000) (q : Nat) (hq : q < Da.n16 p) : (bi (Da.all16 K N F p) q).length = 16 := by
 rw [Da.all16_at K N F p (by omega) q hq, Da.tg16_length, Da.raw16_length _ _ _ _ (by have := Da.fr16_lt (K := K) (N := N) (p := p) (by omega) hq; omega)]
theorem Da.st16_succ (K : List UInt8) (N : Int) (F : List UInt8) (p : Pm15) (hn : Da.n16 p <= 1048576) (i : Nat) (hi : i < Da.n16 p) :
    (Da.st16 K N F p i).set (Da.to16 K N p i) (Da.tg16 (Da.key16 K N 3) ((Da.to16 K N p i : Nat) : Int) (Da.raw16 K N F i)) = Da.st16 K N F p (i + 1) :=
 Da.stp16_succ _ _ (Da.to16 K N p) _ _ _ (Da.fr_to16 hn hi) (fun q hq => Da.to_fr16 hn hq)
structure E16 (W : World) (A : Nat -> Addr) : Prop where
 c0 : W.cell? ⟨1, 0, none⟩ = some (.iface 256 (.pointer (some (A 0))))
 c7 : W.cell? ⟨0, 0, none⟩ = some (.iface 256 (.pointer (some (A 7))))
 c8 : W.cell? ⟨8, 0, none⟩ = some (.iface 256 (.pointer (some (A 8))))
 c17 : W.cell? ⟨17, 0, none⟩ = some (.iface 256 (.pointer (some (A 17))))
theorem E16.later {W W' : World} {A : Nat -> Addr} (h : E16 W A) (hb : Below W.heap.size W W') : E16 W' A :=
 ⟨(hb.cell (cell_lt15 h.c0)).trans h.c0, (hb.cell (cell_lt15 h.c7)).trans h.c7, (hb.cell (cell_lt15 h.c8)).trans h.c8, (hb.cell (cell_lt15 h.c17)).trans h.c17⟩
theorem E16.e15 {W : World} {A : Nat -> Addr} (h : E16 W A) : E15 W A := ⟨h.c0, h.c7, h.c17⟩
theorem E16.e9 {W : World} {A : Nat -> Addr} (h : E16 W A) : Er.E9a W A := ⟨h.c0, h.c8⟩
theorem E16.e10 {W : World} {A : Nat -> Addr} (h : E16 W A) : Er.E10 W A := ⟨h.c0, h.c7⟩
theorem E16.e11 {W : World} {A : Nat -> Addr} (h : E16 W A) : Er.E11 W A := ⟨h.c0⟩
def SeV (A : Nat -> Addr) (p : Pm15) (k : Nat) (W : World) (v : Value) : Prop := (Da.bad15 p ≠ 0 /\ WrV A p W v) ∨ (Da.bad15 p = 0 /\ v = errV A k)
theorem SeV.later {A : Nat -> Addr} {p : Pm15} {k : Nat} {W W' : World} {v : Value} (h : SeV A p k W v) (hb : Below W.heap.size W W') : SeV A p k W' v := by
 rcases h with ⟨h0, h⟩ | h
 ·exact .inl ⟨h0, h.later hb⟩
 ·exact .inr h
def Da.sen16 (p : Pm15) (k : Nat) : Nat := if Da.bad15 p = 0 then k else Da.err15 (Da.bad15 p)
def sldL (x : Value) (r f : List UInt8) : List Value := [x] ++ (bytesV r ++ bytesV f)
def Da.zd16 : List UInt8 := List.replicate 32 0
structure SlM (A : Nat -> Addr) : Prop where
 mksl : ∀ (W : World) (oK : Option Addr) (cK : Nat) (K : List UInt8) (N : Int) (oF : Option Addr) (cF : Nat) (F : List UInt8) (p : Pm15), RowIs W oK (bytesV K) cK -> RowIs W oF (bytesV F) cF -> K.length <= 100 -> F.length <= 400 -> in64 N -> p.ok -> Cds W -> E16 W A ->
  Calls Tryz.prog 10 #[.slice oK K.length cK, .int .i64 N, .slice oF F.length cF, .agg (pmA p)] W fun e w' => ∃ x v, e = .returned (.tuple #[.agg (sldL x (if Da.sbad16 K N F p = 0 then Da.mth (Da.all16 K N F p) else Da.zd16) (if Da.sbad16 K N F p = 0 then Da.sha F else Da.zd16)).toArray, v]) /\
   RbV (if Da.sbad16 K N F p = 0 then Da.all16 K N F p else []) x w' /\ SeV A p (Da.sbad16 K N F p) w' v /\ Below W.heap.size W w'
theorem sld_length (x : Value) (r f : List UInt8) : (sldL x r f).length = 1 + r.length + f.length := by
 unfold sldL
 simp only [List.length_append, List.length_cons, List.length_nil, bytesV_length]
 omega
theorem sld_one (x : Value) (hx : x.oneCell' = true) (r f : List UInt8) : (sldL x r f).toArray.all (·.oneCell') = true := by
 refine all_oneCell_toArray fun v hv => ?_
 unfold sldL at hv
 rcases List.mem_append.1 hv with h | h
 ·rw [List.mem_singleton.1 h]; exact hx
 ·rcases List.mem_append.1 h with h | h
  ·exact bytesV_one _ v h
  ·exact bytesV_one _ v h
theorem sld_info : (Tryz.prog.info? 34).map (·.size) = some 65 := by kernel_rfl
def ex16 : Pm15 := ⟨0, 0, 1, 1, 1, 0⟩
theorem ex16_ok : ex16.ok := by constructor <;> (unfold in64 ex16; dsimp only; omega)
theorem ex16_bad : Da.sbad16 (List.replicate 16 0) 0 [] ex16 = 0 := by decide +kernel
theorem ex16_n : Da.n16 ex16 = 33 := by decide +kernel
theorem ex16_sen : Da.bad15 ex16 = 0 := by decide +kernel
theorem sld_zero (w : World) : Sem.run Tryz.prog (zeroValue 34) w = .ok (.agg (sldL (.slice none 0 0) Da.zd16 Da.zd16).toArray) w := by kernel_rfl
theorem ex16_built (w : World) : (Instr.build 24 #[(2, .int .i64 1), (3, .int .i64 1), (4, .int .i64 1)]).run Tryz.prog w = .ok (.agg (pmA ex16)) w := by kernel_rfl
theorem eql_nil16 (v : World) : (binOp .eql 36 .nilIface .nilIface).run Tryz.prog v = .ok (.bool true) v := by kernel_rfl
theorem al16_of (Z : Array Value) (hZ : Z = (sldL (.slice none 0 0) Da.zd16 Da.zd16).toArray) (hzs : ∀ w, Sem.run Tryz.prog (zeroValue 34) w = .ok (.agg Z) w) (A : Nat -> Addr) (hC : SlM A) (w : World) (hV : Cds w) (hE : E16 w A) :
    Calls Tryz.prog 7 #[] w fun e w' => e = .returned (.bool true) /\ Below w.heap.size w w' := by
 obtain ⟨i0, hi, hz0, hz1, hz2⟩ := info_parts info_u8
 have HV := Lh hV
 have HE := Lh hE
 have HC := Lh hC
 have HZ := Lh hZ
 clear hV hE hC hZ
 go_enter Tryz.func7, Tryz.ntmps7
 go_upto_region 1 with fail
 apply wp_region_lit
 refine wpList_make_full _ rfl (.const (.int .i64 16)) (.const (.int .i64 16)) 22 rfl 0 5 i0 (.int .u8 0) 1 Tryz.underlying22 hi hz0 hz1 .i64 .i64 16 16 16 rfl rfl (by omega) (by omega) (by rw [hz2]; omega) (by unfold maxLen; omega) (Nat.zero_le _) ?_
 intro w1 hown hgrow
 have hb1 : Below w.heap.size w w1 := (Below.refl _ _).grown hgrow (Nat.le_refl _) (fun k h => by cases h)
 obtain ⟨g, hg⟩ : ∃ g, w.heap.size = g := ⟨_, rfl⟩
 rw [hg] at hown
 simp only [Value.cells, Nat.mul_one] at hown
 rw [made_bytes] at hown
 have hA1 := (arr_of_own hown).1
 have hrow := hA1.row (by rw [List.length_replicate]; unfold maxLen; decide)
 rw [List.length_replicate] at hrow
 have hnil : RowIs w1 none (bytesV []) 0 := ⟨by simp [bytesV], Nat.zero_le _, fun _ => rfl, fun h => by simp [bytesV] at h⟩
 have SL := HC.out.mksl w1 (some ⟨g, 0, none⟩) 16 (List.replicate 16 0) 0 none 0 [] ex16 hrow hnil (by decide) (by decide) (by unfold in64; omega) ex16_ok (HV.out.later hb1) (HE.out.later hb1)
 rw [ex16_bad, List.length_replicate, if_pos rfl, if_pos rfl, if_pos rfl] at SL
 rw [show ([] : List UInt8).length = 0 from rfl] at SL
 obtain ⟨ST, hST⟩ : ∃ ST, Da.all16 (List.replicate 16 0) 0 [] ex16 = ST := ⟨_, rfl⟩
 have hl : ST.length = 33 := by rw [<- hST, Da.all16_length, ex16_n]
 have h16 : (bi ST 0).length = 16 := by rw [<- hST]; exact Da.all16_sixteen _ _ _ _ (by rw [ex16_n]; omega) 0 (by rw [ex16_n]; omega)
 rw [hST] at SL
 obtain ⟨R, hR⟩ : ∃ R, Da.mth ST = R := ⟨_, rfl⟩
 obtain ⟨FD, hFD⟩ : ∃ FD, Da.sha [] = FD := ⟨_, rfl⟩
 have hrl : R.length = 32 := by rw [<- hR]; exact Da.mth_length ST
 have hfl : FD.length = 32 := by rw [<- hFD]; exact Da.sha_length _
 rw [hR, hFD] at SL
 have HSL := Lh SL
 have HB1 := Lh hb1
 have HG := Lh hg
 have HL := Lh hl
 have H16 := Lh h16
 have HRL := Lh hrl
 have HFL := Lh hfl
 have HEX := Lh ex16_built
 clear hown hgrow hb1 hA1 hrow hnil SL hg hST hl h16 hR hFD hrl hfl
 rw [HG.out]
 (refine wpList_plain rfl (fun K hK => ?_); have hx := HEX.out; go_simp; refine hK _ _ ?_; clear hK K hx)
 (refine wpList_plain rfl (fun K hK => ?_); go_simp)
 refine HSL.out.mono ?_
 rintro e W2 ⟨x, v, rfl, hx, hv, hb2⟩
 refine hK _ _ ?_
 clear hK K HSL
 have hv0 : v = .nilIface := by
  rcases hv with ⟨h, _⟩ | ⟨_, h⟩
  ·exact absurd ex16_sen h
  ·exact h
 subst hv0
 obtain ⟨F, hF⟩ : ∃ F, (sldL x R FD).toArray = F := ⟨_, rfl⟩
 have hx1 : x.oneCell' = true := by obtain ⟨o, c, rfl, _⟩ := hx; rfl
 have HFS : Hid ((Tryz.prog.info? 34).map (·.size) = some F.size) := Lh (by rw [sld_info, <- hF]; simp [sld_length, HRL.out, HFL.out])
 have HFZ : Hid (Z.size = F.size) := Lh (by rw [HZ.out, <- hF]; simp [sld_length, HRL.out, HFL.out, Da.zd16])
 have HFO : Hid (F.all (·.oneCell') = true) := Lh (by rw [<- hF]; exact sld_one x hx1 R FD)
 obtain ⟨gs, hgs⟩ : ∃ gs, W2.heap.size = gs := ⟨_, rfl⟩
 obtain ⟨W3, hW3⟩ : ∃ W3, W2.alloc (.cells Z 34) = W3 := ⟨_, rfl⟩
 have hz3 : W3.heap[gs]? = some (.cells Z 34 (0, 0)) := by rw [<- hW3, <- hgs]; exact World.alloc_heap_new W2 _
 obtain ⟨W4, hW4⟩ : ∃ W4, W3.setRow gs F = W4 := ⟨_, rfl⟩
 have hA4 : Arr W4 gs 34 (sldL x R FD) := by rw [<- hW4]; unfold Arr; rw [hF]; exact setRow_heap _ _ _ _ _ _ hz3
 have hb4 : Below W2.heap.size W2 W4 := by rw [<- hW4, <- hW3]; exact (new12 _ _).trans (below_row (Nat.le_of_eq hgs))
 obtain ⟨ox, cx, rfl, hrx⟩ := hx.later hb4
 obtain ⟨bb, off, p, q, rfl, _, hcell, hr0⟩ := hrx.cell 0 (by rw [HL.out]; omega)
 rw [H16.out] at hcell
 rw [Nat.add_zero] at hcell
 have hc0 : W4.cell? ⟨gs, 0, none⟩ = some (.slice (some ⟨bb, off, none⟩) 33 cx) := by rw [hA4.cell, <- HL.out]; rfl
 have HB4 := Lh (Ks (Ks HB1.out hb2) hb4)
 have HZ3 := Lh hz3
 have HW3 := Lh hW3
 have HW4 := Lh hW4
 have HGS := Lh hgs
 rw [hF]
 clear hF hx1 hgs hW3 hz3 hW4 hA4 hb4 hrx hr0 hb2 hx hv
 iterate 4 (refine wpList_plain rfl (fun K hK => ?_); go_simp; refine hK _ _ ?_; clear hK K)
 rw [HW3.out, HGS.out]
 refine wpList_store_rowTo rfl 34 (.tmp 1) (.tmp 7) rfl rfl gs F rfl rfl 34 Z HZ3.out HFS.out HFZ.out HFO.out ?_
 rw [HW4.out]
 have hen := eql_nil16
 go_wp2_with fail
 go_ret
 exact ⟨rfl, HB4.out⟩
theorem al16_any (A : Nat -> Addr) (hC : SlM A) (w : World) (hV : Cds w) (hE : E16 w A) :
    Calls Tryz.prog 7 #[] w fun e w' => e = .returned (.bool true) /\ Below w.heap.size w w' := al16_of _ rfl sld_zero A hC w hV hE
end Go.Proofs.YtffheegeaghfjaaGreatDoor
