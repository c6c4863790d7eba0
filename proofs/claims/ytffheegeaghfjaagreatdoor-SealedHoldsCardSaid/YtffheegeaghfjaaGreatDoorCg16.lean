/- Cg16 -/
import Derived.Test.YtffheegeaghfjaaGreatDoorCg15
import Derived.Test.YtffheegeaghfjaaGreatDoorRq16
import Derived.BigQuiet
set_option linter.unusedVariables false
set_option linter.unusedSimpArgs false
set_option maxRecDepth 100000
set_option maxHeartbeats 8000000
namespace Go.Proofs.YtffheegeaghfjaaGreatDoor
open Go.RowKit
theorem tagged16_new (k B : List UInt8) (b : Nat) (n : Int) (o : Option Addr) (c : Nat) (w : World) (hA : Arr w b 175 (bytesV (Da.fil k))) (hB : RowIs w o (bytesV B) c) (hV : Cds w) (hl : B.length <= 1000) :
    Calls Tryz.prog 52 #[.pointer (some ⟨b, 0, none⟩), .int .i64 n, .slice o B.length c] w fun e w' => ∃ g cap, e = .returned (.slice (some ⟨g, 0, none⟩) (B.length + 8) cap) /\ w.heap.size <= g /\ RowV (Da.tg16 k n B) (.slice (some ⟨g, 0, none⟩) (B.length + 8) cap) w' /\ Below w.heap.size w w' := by
 have HA := Lh hA
 have HBR := Lh hB
 have HV := Lh hV
 obtain ⟨L, hL⟩ : ∃ L, B.length = L := ⟨_, rfl⟩
 have HL := Lh hL
 rw [hL] at hl ⊢
 clear hA hB hV hL
 go_enter Tryz.func52, Tryz.ntmps52
 go_upto_region 1 with fail
 apply wp_region_lit
 iterate 3 (refine wpList_plain rfl (fun K hK => ?_); go_simp; refine hK _ _ ?_; clear hK K)
 (refine wpList_plain rfl (fun K hK => ?_); go_simp)
 refine (lnum_rv (n := n) rfl).mono ?_
 rintro e W1 ⟨r, rfl, hr, hb1⟩
 refine hK _ _ ?_
 clear hK K
 obtain ⟨o1, c1, rfl, hr1⟩ := hr
 have h8 := Da.num8_length n
 rw [h8]
 obtain ⟨g2, hg2⟩ : ∃ g2, W1.heap.size = g2 := ⟨_, rfl⟩
 obtain ⟨W2, hW2⟩ : ∃ W2, W1.alloc (.cells #[.slice o1 8 c1, .slice o L c] 22) = W2 := ⟨_, rfl⟩
 have hb2 : Below W1.heap.size W1 W2 := by rw [<- hW2]; exact new12 _ _
 have HB2 := Lh (Ks hb1 hb2)
 have hrb : RbIs W2 (some ⟨g2, 0, none⟩) [Da.num8 n, B] 2 := by
  have := two_parts hr1 (HBR.out.later hb1)
  rw [h8, HL.out, hW2, hg2] at this
  exact this
 have htg := tag_any k b [Da.num8 n, B] (some ⟨g2, 0, none⟩) 2 W2 (HA.out.later HB2.out HA.out.lt) hrb (HV.out.later HB2.out) (by simp [h8, HL.out]; omega) (by simp)
 rw [show [Da.num8 n, B].flatten = Da.num8 n ++ B by simp, show ([Da.num8 n, B] : List (List UInt8)).length = 2 from rfl] at htg
 obtain ⟨TT, hTT⟩ : ∃ TT, (Da.hmac k (Da.num8 n ++ B)).take 8 = TT := ⟨_, rfl⟩
 have hTl : TT.length = 8 := by rw [<- hTT, List.length_take, Da.hmac_length]; rfl
 rw [hTT] at htg
 have HTG := Lh htg
 have HTT := Lh hTT
 have HTL := Lh hTl
 have HW2 := Lh hW2
 have HG2 := Lh hg2
 clear hr1 h8 hg2 hW2 hb2 hrb htg hTT hTl hb1
 (refine wpList_plain rfl (fun K hK => ?_); go_simp; refine hK _ _ ?_; clear hK K)
 (refine wpList_plain rfl (fun K hK => ?_); go_simp; rw [HW2.out, HG2.out]; refine hK _ _ ?_; clear hK K)
 (refine wpList_plain rfl (fun K hK => ?_); go_simp)
 refine HTG.out.mono ?_
 rintro e W3 ⟨g3, rfl, hr3, hb3⟩
 refine hK _ _ ?_
 clear hK K HTG HW2 HG2
 obtain ⟨g4, hg4⟩ : ∃ g4, W3.heap.size = g4 := ⟨_, rfl⟩
 obtain ⟨W4, hW4⟩ : ∃ W4, W3.alloc (.cells #[.slice o L c, .slice (some ⟨g3, 0, none⟩) 8 8] 22) = W4 := ⟨_, rfl⟩
 have hb4 : Below W3.heap.size W3 W4 := by rw [<- hW4]; exact new12 _ _
 have HB4 := Lh (Ks (Ks HB2.out hb3) hb4)
 have hrb : RbIs W4 (some ⟨g4, 0, none⟩) [B, TT] 2 := by
  have := two_parts (HBR.out.later (Ks HB2.out hb3)) hr3
  rw [HTL.out, HL.out, hW4, hg4] at this
  exact this
 have hct := cat12_any [B, TT] (some ⟨g4, 0, none⟩) 2 2 W4 hrb rfl (by simp [HTL.out]) (by simp [HTL.out, HL.out]; omega) (by omega)
 rw [show [B, TT].flatten = B ++ TT by simp] at hct
 have hlen : (B ++ TT).length = L + 8 := by rw [List.length_append, HL.out, HTL.out]
 have htg : Da.tg16 k n B = B ++ TT := by unfold Da.tg16; rw [HTT.out]
 rw [hlen] at hct
 have HCT := Lh hct
 have HLN := Lh hlen
 have HTG := Lh htg
 have HW4 := Lh hW4
 have HG4 := Lh hg4
 clear hr3 hg4 hW4 hb4 hrb hct hlen htg hb3
 (refine wpList_plain rfl (fun K hK => ?_); go_simp; rw [HW4.out, HG4.out]; refine hK _ _ ?_; clear hK K)
 (refine wpList_plain rfl (fun K hK => ?_); go_simp)
 refine HCT.out.mono ?_
 rintro e W5 ⟨g, cap, rfl, hge, hbuf, hb5⟩
 refine hK _ _ ?_
 clear hK K HCT HW4 HG4
 have HGE : Hid (w.heap.size <= g) := Lh (Nat.le_trans HB4.out.size hge)
 have HRV : Hid (RowV (Da.tg16 k n B) (.slice (some ⟨g, 0, none⟩) (L + 8) cap) W5) := Lh (by rw [HTG.out]; exact ⟨_, cap, by rw [HLN.out], hbuf.row⟩)
 have HB5 := Lh (Ks HB4.out hb5)
 clear hbuf hb5 hge
 go_wp2_with fail
 go_ret
 exact ⟨g, cap, rfl, HGE.out, HRV.out, HB5.out⟩
theorem Da.ares_five (b : Nat) (K : List UInt8) (N : Int) : (Da.ares b (Da.keysL K N)).length = 5 := by
 unfold Da.ares
 split <;> rfl
theorem els_cells16 {W : World} {bs : List (List UInt8)} {xs : List Value} (h : Els W bs xs) : xs.toArray.all (·.oneCell') = true := all_oneCell_toArray h.ones
def lyL16 (xs : List Value) (o : Option Addr) (n : Int) : List Value := xs ++ [.pointer o, .int .i64 n]
def lyZ16 : List Value := lyL16 nil5 none 0
theorem ly_info : (Tryz.prog.info? 79).map (·.size) = some 7 := by kernel_rfl
theorem ly_zero (w : World) : Sem.run Tryz.prog (zeroValue 79) w = .ok (.agg lyZ16.toArray) w := by kernel_rfl
theorem ly_built0 (w : World) : (Instr.build 79 #[]).run Tryz.prog w = .ok (.agg lyZ16.toArray) w := by kernel_rfl
theorem ly_built (o0 o1 o2 o3 o4 p : Option Addr) (l0 l1 l2 l3 l4 c0 c1 c2 c3 c4 : Nat) (n : Int) :
    Tryz.prog.built 79 [(0, .agg [.slice o0 l0 c0, .slice o1 l1 c1, .slice o2 l2 c2, .slice o3 l3 c3, .slice o4 l4 c4].toArray), (1, .pointer p), (2, .int .i64 n)] = some (lyL16 [.slice o0 l0 c0, .slice o1 l1 c1, .slice o2 l2 c2, .slice o3 l3 c3, .slice o4 l4 c4] p n).toArray := by kernel_rfl
theorem ly_built5 {xs : List Value} (h : Sl5 xs) (p : Option Addr) (n : Int) : Tryz.prog.built 79 [(0, .agg xs.toArray), (1, .pointer p), (2, .int .i64 n)] = some (lyL16 xs p n).toArray := by
 obtain ⟨o0, o1, o2, o3, o4, l0, l1, l2, l3, l4, c0, c1, c2, c3, c4, rfl⟩ := h
 exact ly_built _ _ _ _ _ _ _ _ _ _ _ _ _ _ _ _ _
theorem Sl5.len {xs : List Value} (h : Sl5 xs) : xs.length = 5 := by
 obtain ⟨o0, o1, o2, o3, o4, l0, l1, l2, l3, l4, c0, c1, c2, c3, c4, rfl⟩ := h
 rfl
theorem Sl5.ones {xs : List Value} (h : Sl5 xs) : ∀ v ∈ xs, v.oneCell' = true := by
 obtain ⟨o0, o1, o2, o3, o4, l0, l1, l2, l3, l4, c0, c1, c2, c3, c4, rfl⟩ := h
 intro v hv
 simp only [List.mem_cons, List.not_mem_nil, or_false] at hv
 rcases hv with rfl | rfl | rfl | rfl | rfl <;> rfl
theorem ly_one {xs : List Value} (h : Sl5 xs) (p : Option Addr) (n : Int) : (lyL16 xs p n).toArray.all (·.oneCell') = true := all_oneCell_toArray (fun v hv => by
 rcases List.mem_append.1 hv with hv | hv
 ·exact h.ones v hv
 ·simp only [List.mem_cons, List.not_mem_nil, or_false] at hv
  rcases hv with rfl | rfl <;> rfl)
theorem ly_size {xs : List Value} (h : Sl5 xs) (p : Option Addr) (n : Int) : (lyL16 xs p n).toArray.size = 7 := by simp [lyL16, h.len]
theorem sl5_nil : Sl5 nil5 := ⟨_, _, _, _, _, _, _, _, _, _, _, _, _, _, _, rfl⟩
def Nn16 (v : Value) : Prop := (∀ W, (binOp .neq 36 v .nilIface).run Tryz.prog W = .ok (.bool true) W) /\ ∀ j W, (eqGuard .neq 36 (.tmp j) (.const .nilIface) v .nilIface).run Tryz.prog W = .ok () W
theorem nn_wr16 (b : Nat) : Nn16 (wr15 b) := ⟨fun W => neq_wr15 b W, fun j W => rfl⟩
theorem nn_str16 (a : Addr) : Nn16 (.iface 256 (.pointer (some a))) := ⟨fun W => by kernel_rfl, fun j W => rfl⟩
theorem grown_row16 (W : World) (g : Nat) (cs : Array Value) : W.grownBy (W.setRow g cs) (some g) :=
 ⟨rfl, rfl, rfl, by simp [World.setRow], fun k hk hne => setRow_other W g k cs (fun e => hne (by rw [e]))⟩
theorem row_apart16 {W : World} {g c : Nat} {o : Option Addr} {z : List UInt8} {cs : Array Value} {T : TypeId} (hg : W.heap[g]? = some (.cells cs T (0, 0))) (hr : RowIs W o (bytesV z) c) (hz : cs.size < z.length) : ∀ p, o = some p -> p.block ≠ g := fun p e e2 => by
 obtain ⟨b, off, rfl, _, hc⟩ := hr.cells (by simp; omega)
 cases e
 have h1 := hc cs.size _ (bytesV_get z cs.size hz)
 have e3 : b = g := e2
 subst e3
 unfold World.cell? at h1
 rw [hg] at h1
 have : ¬ off + cs.size < cs.size := by omega
 simp [this] at h1
theorem els_setRow16 {W : World} {bs : List (List UInt8)} {xs : List Value} {g : Nat} {cs cs' : Array Value} {T : TypeId} (h : Els W bs xs) (hg : W.heap[g]? = some (.cells cs T (0, 0))) (hl : ∀ i, i < bs.length -> cs.size < (bi bs i).length) : Els (W.setRow g cs') bs xs :=
 ⟨h.len, fun i x hx => by
  obtain ⟨o, c, rfl, hr⟩ := h.at_ i x hx
  have hi : i < bs.length := by rw [<- h.len]; exact (List.getElem?_eq_some_iff.1 hx).1
  refine ⟨o, c, rfl, hr.kept (grown_row16 W g cs') (fun _ ad e h2 => row_apart16 hg hr (hl i hi) ad e ?_)⟩
  injection h2⟩
theorem keys_setRow16 {W : World} {K : List UInt8} {N : Int} {xs : List Value} {g : Nat} {cs cs' : Array Value} {T : TypeId} (h : Els W (Da.keysL K N) xs) (hg : W.heap[g]? = some (.cells cs T (0, 0))) (hl : cs.size <= 30) : Els (W.setRow g cs') (Da.keysL K N) xs :=
 els_setRow16 h hg fun i hi => by
  have := Da.key16_length K N i hi
  unfold Da.key16 at this
  omega
theorem ord_setRow16 {W : World} {g q n gl : Nat} {k : List UInt8} {cs : Array Value} {T : TypeId} (h : OrdAt W g q k n) (hl : W.heap[gl]? = some (.cells cs T (0, 0))) (h1 : 168 ≠ T) (h2 : 175 ≠ T) (C : Array Value) : OrdAt (W.setRow gl C) g q k n := by
 have hA : Arr W gl T cs.toList := hl
 exact ⟨arr_setRow h.1 (arr_apart h.1 hA h1) C, arr_setRow h.2 (arr_apart h.2 hA h2) C⟩
theorem wrv_setRow16 {A : Nat -> Addr} {p : Pm15} {W : World} {v : Value} {g : Nat} {cs : Array Value} {T : TypeId} (h : WrV A p W v) (hg : W.heap[g]? = some (.cells cs T (0, 0))) (hT : T ≠ 139) (C : Array Value) : WrV A p (W.setRow g C) v := by
 rcases h with h | ⟨h0, b, rfl, hw⟩
 ·exact .inl h
 ·refine .inr ⟨h0, b, rfl, ?_⟩
  unfold WrAt at hw ⊢
  rw [setRow_other W g b C (fun e => ?_)]
  ·exact hw
  ·subst e
   rw [hw] at hg
   injection hg with hg
   injection hg with _ h2 _
   exact hT h2.symm
def Ly16At (K : List UInt8) (N : Int) (p : Pm15) (L : List Value) (W : World) : Prop :=
 ∃ xs g q, L = lyL16 xs (some ⟨g, 0, none⟩) (Da.tot15 p.sz : Int) /\ Sl5 xs /\ Els W (Da.keysL K N) xs /\ OrdAt W g q (Da.key16 K N 1) (Da.n16 p)
theorem Ly16At.later {K : List UInt8} {N : Int} {p : Pm15} {L : List Value} {W W' : World} (h : Ly16At K N p L W) (hb : Below W.heap.size W W') : Ly16At K N p L W' := by
 obtain ⟨xs, g, q, h1, h2, h3, h4⟩ := h
 exact ⟨xs, g, q, h1, h2, h3.later hb, h4.later hb⟩
def Ly16 (A : Nat -> Addr) (K : List UInt8) (N : Int) (p : Pm15) (L : List Value) (v : Value) (W : World) : Prop :=
 L.toArray.size = 7 /\ L.toArray.all (·.oneCell') = true /\ ((Da.rdy16 K N p = 0 /\ v = .nilIface /\ Ly16At K N p L W) ∨ (Da.rdy16 K N p ≠ 0 /\ SeV A p (Da.abad (Da.isMas K.length) (Da.inR N)) W v /\ Nn16 v))
theorem layout16_of (ZK : Array Value) (hZK : nil5.toArray = ZK) (hzk : ∀ w, Sem.run Tryz.prog (zeroValue 76) w = .ok (.agg ZK) w) (ZL : Array Value) (hZL : lyZ16.toArray = ZL) (hzl : ∀ w, Sem.run Tryz.prog (zeroValue 79) w = .ok (.agg ZL) w)
    (hbl : ∀ w, (Instr.build 79 #[]).run Tryz.prog w = .ok (.agg ZL) w) (A : Nat -> Addr) (W : World) (oK : Option Addr) (cK : Nat) (K9 : List UInt8) (N : Int) (p : Pm15) (hK9 : RowIs W oK (bytesV K9) cK) (hKl : K9.length <= 100) (hN : in64 N) (hok : p.ok) (hV : Cds W) (hE : E16 W A) :
    Calls Tryz.prog 34 #[.slice oK K9.length cK, .int .i64 N, .agg (pmA p)] W fun e w' => ∃ L v, e = .returned (.tuple #[.agg L.toArray, v]) /\ Ly16 A K9 N p L v w' /\ Below W.heap.size W w' := by
 obtain ⟨g, hg⟩ : ∃ g, W.heap.size = g := ⟨_, rfl⟩
 obtain ⟨PA, hPA⟩ : ∃ PA, pmA p = PA := ⟨_, rfl⟩
 obtain ⟨W2, hW2⟩ : ∃ W2, (W.alloc (.cells PA 24)).alloc (.cells ZL 79) = W2 := ⟨_, rfl⟩
 have hb2 : Below W.heap.size W W2 := by rw [<- hW2]; exact Ks (new12 _ _) (new12 _ _)
 have hA2 : Arr W2 g 24 (pmL p) := by
  have h1 : Arr (W.alloc (.cells PA 24)) g 24 (pmL p) := by rw [<- hPA, <- hg]; exact World.alloc_heap_new W _
  rw [<- hW2]
  exact h1.alloc _
 have hL2 : W2.heap[g + 1]? = some (.cells ZL 79 (0, 0)) := by rw [<- hW2, <- hg]; exact heap_new2 _ _ _ _
 have hP := plain15_any A W2 p hok (hE.later hb2).e15
 have HPP : Hid (∀ w', Below W2.heap.size W2 w' -> w'.heap[g]? = some (.cells PA 24 (0, 0))) := Lh fun w' hb => by
  have := hA2.later hb hA2.lt
  unfold Arr at this
  rw [show (pmL p).toArray = PA from hPA] at this
  exact this
 have HPS : Hid ((Tryz.prog.info? 24).map (·.size) = some PA.size) := Lh (by rw [<- hPA]; exact pm15c_info)
 have HSE : Hid (∀ w', Below W2.heap.size W2 w' -> w'.cell? ⟨g, 1, none⟩ = some (.int .i64 p.se)) := Lh fun w' hb => by rw [(hA2.later hb hA2.lt).cell]; rfl
 have HLZ : Hid (∀ w', Below W2.heap.size W2 w' -> w'.heap[g + 1]? = some (.cells ZL 79 (0, 0))) := Lh fun w' hb => (hb.block (g + 1) (aE.1 hL2).1).trans hL2
 have HZS : Hid ((Tryz.prog.info? 79).map (·.size) = some ZL.size) := Lh (by rw [ly_info, <- hZL]; rfl)
 have HZO : Hid (ZL.all (·.oneCell') = true) := Lh (by rw [<- hZL]; exact ly_one sl5_nil _ _)
 have HL7 : Hid (ZL.size = 7) := Lh (by rw [<- hZL]; rfl)
 rw [hPA] at hP ⊢
 obtain ⟨PT, hPT⟩ : ∃ PT : Int, (if Da.bad15 p = 0 then (Da.tot15 p.sz : Int) else 0) = PT := ⟨_, rfl⟩
 rw [hPT] at hP
 obtain ⟨lk, hlk⟩ : ∃ lk, K9.length = lk := ⟨_, rfl⟩
 have HLA : Hid (∀ w', Below W2.heap.size W2 w' -> Calls Tryz.prog 56 #[.slice oK lk cK, .int .i64 N] w' fun e w2 => ∃ xs : List Value, e = .returned (.tuple #[.agg xs.toArray, errV A (Da.abad (Da.isMas K9.length) (Da.inR N))]) /\ Els w2 (Da.ares (Da.abad (Da.isMas K9.length) (Da.inR N)) (Da.keysL K9 N)) xs /\ Below w'.heap.size w' w2) := Lh fun w' hb => by
  rw [<- hlk]
  exact lall_anyA K9 oK cK N A w' (hK9.later (Ks hb2 hb)) (hV.later (Ks hb2 hb)) (hE.later (Ks hb2 hb)).e9 (by omega)
 rw [hlk]
 obtain ⟨k, hk⟩ : ∃ k, Da.abad (Da.isMas K9.length) (Da.inR N) = k := ⟨_, rfl⟩
 rw [hk] at HLA
 have HP := Lh hP
 have HPT := Lh hPT
 have HK := Lh hk
 have HG := Lh hg
 have HW2 := Lh hW2
 have HB2 := Lh hb2
 have HV := Lh hV
 have HZK := Lh hZK
 have HZL := Lh hZL
 have hnn := neq_nil
 clear hP hPT hk hg hW2 hb2 hA2 hL2 hV hE hZK hZL hK9 hKl hlk hPA hok hN
 go_enter Tryz.func34, Tryz.ntmps34
 go_upto_region 1 with fail
 rw [HW2.out, HG.out]
 apply wp_region_lit
 refine wpList_load_row rfl 24 (.tmp 5) rfl g rfl 24 PA (0, 0) _ (HPP.out W2 (Below.refl _ _)) Tryz.underlying24 rfl HPS.out ?_
 (refine wpList_plain rfl (fun K hK => ?_); go_simp)
 refine HP.out.mono ?_
 rintro e W3 ⟨v, rfl, hv, hb3⟩
 refine hK _ _ ?_
 clear hK K HP
 have HB3 := Lh hb3
 clear hb3
 iterate 5 (refine wpList_plain rfl (fun K hK => ?_); go_simp; refine hK _ _ ?_; clear hK K)
 rcases hv with ⟨h0, rfl⟩ | ⟨h0, b, rfl, hw⟩
 rotate_left
 ·have hwr := wrv_setRow16 (v := wr15 b) (.inr ⟨h0, b, rfl, hw⟩) (HLZ.out W3 HB3.out) (by decide) ZL
  have HFIN : Hid (Ly16 A K9 N p lyZ16 (wr15 b) (W3.setRow (g + 1) ZL)) := Lh ⟨by rw [HZL.out]; exact HL7.out, by rw [HZL.out]; exact HZO.out, .inr ⟨by unfold Da.rdy16; rw [if_neg h0]; exact fun h => h0 ((Da.err15_zero (Da.bad15_le p)).1 h), .inl ⟨h0, hwr⟩, nn_wr16 b⟩⟩
  have HBF : Hid (Below W.heap.size W (W3.setRow (g + 1) ZL)) := Lh ((Ks HB2.out HB3.out).trans (below_row (by have := HG.out; omega)))
  have HLW := Lh (HLZ.out W3 HB3.out)
  have hq := neq_wr15 b
  unfold wr15 at hq ⊢
  clear h0 hw hwr
  go_upto_region 3 with fail
  apply wp_region_lit
  iterate 2 (refine wpList_plain rfl (fun K hK => ?_); go_simp; refine hK _ _ ?_; clear hK K)
  refine wpList_store_rowTo rfl 79 (.tmp 6) (.tmp 19) rfl rfl (g + 1) ZL rfl rfl 79 ZL HLW.out HZS.out rfl HZO.out ?_
  go_wp2_with fail
  refine bodyPost_ret (results_cell_row2 rfl _ _ (g + 1) 79 ZL (0, 0) _ rfl (setRow_heap _ _ _ _ _ _ HLW.out) Tryz.underlying79 rfl HZS.out) rfl ?_
  exact ⟨lyZ16, _, by rw [HZL.out]; rfl, HFIN.out, HBF.out⟩
 have hpt : PT = (Da.tot15 p.sz : Int) := by rw [<- HPT.out, if_pos h0]
 have H0 := Lh h0
 have HTT := Lh hpt
 clear h0 hpt
 go_upto_region 4 with fail
 apply wp_region_lit
 iterate 2 (refine wpList_plain rfl (fun K hK => ?_); go_simp; refine hK _ _ ?_; clear hK K)
 (refine wpList_plain rfl (fun K hK => ?_); go_simp)
 refine (HLA.out W3 HB3.out).mono ?_
 rintro e V2 ⟨xs, rfl, hx, hbv⟩
 refine hK _ _ ?_
 clear hK K HLA
 obtain ⟨gk, hgk⟩ : ∃ gk, V2.heap.size = gk := ⟨_, rfl⟩
 obtain ⟨FA, hFA⟩ : ∃ FA : Array Value, xs.toArray = FA := ⟨_, rfl⟩
 have h5 : xs.length = 5 := hx.len.trans (Da.ares_five _ _ _)
 have HFS : Hid ((Tryz.prog.info? 76).map (·.size) = some FA.size) := Lh (by rw [lk_info, <- hFA]; simp [h5])
 have HFZ : Hid (ZK.size = FA.size) := Lh (by rw [<- HZK.out, <- hFA]; simp [h5, nil5])
 have HFO : Hid (FA.all (·.oneCell') = true) := Lh (by rw [<- hFA]; exact els_cells16 hx)
 obtain ⟨V3, hV3⟩ : ∃ V3, V2.alloc (.cells ZK 76) = V3 := ⟨_, rfl⟩
 have hz3 : V3.heap[gk]? = some (.cells ZK 76 (0, 0)) := by rw [<- hV3, <- hgk]; exact World.alloc_heap_new V2 _
 obtain ⟨V4, hV4⟩ : ∃ V4, V3.setRow gk FA = V4 := ⟨_, rfl⟩
 have hA4 : Arr V4 gk 76 xs := by rw [<- hV4]; unfold Arr; rw [hFA]; exact setRow_heap _ _ _ _ _ _ hz3
 have hb4 : Below V2.heap.size V2 V4 := by rw [<- hV4, <- hV3]; exact (new12 _ _).trans (below_row (Nat.le_of_eq hgk))
 have HX4 := Lh (hx.later hb4)
 have HA4 := Lh hA4
 have HZ3 := Lh hz3
 have HV3 := Lh hV3
 have HV4 := Lh hV4
 have HGK := Lh hgk
 have HFA := Lh hFA
 rw [hFA]
 have hs5 := hx.five (Da.ares_five _ _ _)
 have HS5 := Lh hs5
 have HB4 := Lh (Ks (Ks HB3.out hbv) hb4)
 clear hx hbv hgk hFA h5 hV3 hz3 hV4 hA4 hb4 hs5
 iterate 4 (refine wpList_plain rfl (fun K hK => ?_); go_simp; refine hK _ _ ?_; clear hK K)
 rw [HV3.out, HGK.out]
 refine wpList_store_rowTo rfl 76 (.tmp 10) (.tmp 25) rfl rfl gk FA rfl rfl 76 ZK HZ3.out HFS.out HFZ.out HFO.out ?_
 rw [HV4.out]
 clear HV3 HV4 HZ3
 (refine wpList_plain rfl (fun K hK => ?_); go_simp; refine hK _ _ ?_; clear hK K)
 by_cases hk0 : k = 0
 rotate_left
 ·obtain ⟨a1, ha1⟩ := errV_succ A k hk0
  have HLW := Lh (HLZ.out V4 HB4.out)
  have HFIN : Hid (Ly16 A K9 N p lyZ16 (errV A k) (V4.setRow (g + 1) ZL)) := Lh ⟨by rw [HZL.out]; exact HL7.out, by rw [HZL.out]; exact HZO.out, .inr ⟨by unfold Da.rdy16; rw [if_pos H0.out, HK.out]; exact hk0, .inr ⟨H0.out, by rw [HK.out]⟩, by rw [ha1]; exact nn_str16 a1⟩⟩
  have HBF : Hid (Below W.heap.size W (V4.setRow (g + 1) ZL)) := Lh ((Ks HB2.out HB4.out).trans (below_row (by have := HG.out; omega)))
  rw [ha1] at HFIN ⊢
  clear ha1 hk0
  go_upto_region 6 with fail
  apply wp_region_lit
  iterate 2 (refine wpList_plain rfl (fun K hK => ?_); go_simp; refine hK _ _ ?_; clear hK K)
  refine wpList_store_rowTo rfl 79 (.tmp 6) (.tmp 29) rfl rfl (g + 1) ZL rfl rfl 79 ZL HLW.out HZS.out rfl HZO.out ?_
  go_wp2_with fail
  refine bodyPost_ret (results_cell_row2 rfl _ _ (g + 1) 79 ZL (0, 0) _ rfl (setRow_heap _ _ _ _ _ _ HLW.out) Tryz.underlying79 rfl HZS.out) rfl ?_
  exact ⟨lyZ16, _, by rw [HZL.out]; rfl, HFIN.out, HBF.out⟩
 subst hk0
 rw [errV_nil]
 have hR := Da.right15 H0.out
 have hn := Da.n16_le2 hR
 have hni := Da.n16_int hR
 obtain ⟨n, hne⟩ : ∃ n, Da.n16 p = n := ⟨_, rfl⟩
 rw [hne] at hn hni
 have hws : IntKind.i64.wrap (PT + p.se) = (n : Int) := by rw [IntKind.wrap_i64, HTT.out, hni]; omega
 have hx4 : Els V4 (Da.keysL K9 N) xs := HX4.out
 have HX4 := Lh hx4
 obtain ⟨x1, hx1, hr1⟩ := hx4.key16 1 (by omega)
 have hk1l := Da.key16_length K9 N 1 (by omega)
 obtain ⟨o1, c1, rfl, hr1⟩ := hr1
 have hsn := snew_any (Da.key16 K9 N 1) o1 c1 n (by omega) (by omega) V4 hr1 (HV.out.later (Ks HB2.out HB4.out)) (by rw [hk1l]; omega)
 rw [hk1l] at hsn hx1
 have hc1 : V4.cell? ⟨gk, 1, none⟩ = some (.slice o1 32 c1) := by rw [HA4.out.cell]; exact hx1
 have hse := HSE.out V4 HB4.out
 have HSN := Lh hsn
 have HNE := Lh hne
 clear hR hn hni hne hx4 hx1 hr1 hk1l hsn
 go_upto_region 7 with fail
 apply wp_region_lit
 iterate 6 (refine wpList_plain rfl (fun K hK => ?_); go_simp; refine hK _ _ ?_; clear hK K)
 (refine wpList_plain rfl (fun K hK => ?_); go_simp)
 refine HSN.out.mono ?_
 rintro e V5 ⟨go, q, rfl, hO, hb5⟩
 refine hK _ _ ?_
 clear hK K HSN hc1 hse hws
 have HO := Lh hO
 have HA5 := Lh (HA4.out.later hb5 HA4.out.lt)
 have HX5 := Lh (HX4.out.later hb5)
 have HB5 := Lh (Ks HB4.out hb5)
 clear hO hb5
 iterate 5 (refine wpList_plain rfl (fun K hK => ?_); go_simp; refine hK _ _ ?_; clear hK K)
 have HLW := Lh (HLZ.out V5 HB5.out)
 obtain ⟨LA, hLA⟩ : ∃ LA, (lyL16 xs (some ⟨go, 0, none⟩) PT).toArray = LA := ⟨_, rfl⟩
 have HBT : Hid (Tryz.prog.built 79 [(0, .agg FA), (1, .pointer (some ⟨go, 0, none⟩)), (2, .int .i64 PT)] = some LA) := Lh (by rw [<- HFA.out, <- hLA]; exact ly_built5 HS5.out _ _)
 have HLS : Hid ((Tryz.prog.info? 79).map (·.size) = some LA.size) := Lh (by rw [ly_info, <- hLA, ly_size HS5.out])
 have HLO : Hid (LA.all (·.oneCell') = true) := Lh (by rw [<- hLA]; exact ly_one HS5.out _ _)
 have HLQ : Hid (ZL.size = LA.size) := Lh (by rw [HL7.out, <- hLA, ly_size HS5.out])
 have HFA5 : Hid (V5.heap[gk]? = some (.cells FA 76 (0, 0))) := Lh (by have := HA5.out; unfold Arr at this; rw [HFA.out] at this; exact this)
 have HFIN : Hid (Ly16 A K9 N p (lyL16 xs (some ⟨go, 0, none⟩) PT) .nilIface (V5.setRow (g + 1) LA)) := Lh ⟨ly_size HS5.out _ _, ly_one HS5.out _ _, .inl ⟨by unfold Da.rdy16; rw [if_pos H0.out, HK.out], rfl, xs, go, q, by rw [HTT.out], HS5.out, keys_setRow16 HX5.out HLW.out (by rw [HL7.out]; omega), by rw [HNE.out]; exact ord_setRow16 HO.out HLW.out (by decide) (by decide) LA⟩⟩
 have HBF : Hid (Below W.heap.size W (V5.setRow (g + 1) LA)) := Lh ((Ks HB2.out HB5.out).trans (below_row (by have := HG.out; omega)))
 have HLAE := Lh hLA
 clear hLA
 go_upto_region 10 with fail
 apply wp_region_lit
 refine wpList_load_row rfl 76 (.tmp 10) rfl gk rfl 76 FA (0, 0) _ HFA5.out Tryz.underlying76 rfl HFS.out ?_
 iterate 2 (refine wpList_plain rfl (fun K hK => ?_); go_simp; refine hK _ _ ?_; clear hK K)
 refine wpList_built rfl 79 _ rfl [(0, .agg FA), (1, .pointer (some ⟨go, 0, none⟩)), (2, .int .i64 PT)] (by simp [Act.eval]) _ HBT.out ?_
 refine wpList_store_rowTo rfl 79 (.tmp 6) (.tmp 48) rfl rfl (g + 1) LA rfl rfl 79 ZL HLW.out HLS.out HLQ.out HLO.out ?_
 go_wp2_with fail
 refine bodyPost_ret (results_cell_row2 rfl _ _ (g + 1) 79 LA (0, 0) _ rfl (setRow_heap _ _ _ _ _ _ HLW.out) Tryz.underlying79 rfl HLS.out) rfl ?_
 exact ⟨_, _, by rw [HLAE.out]; rfl, HFIN.out, HBF.out⟩
theorem layout16_any (A : Nat -> Addr) (W : World) (oK : Option Addr) (cK : Nat) (K9 : List UInt8) (N : Int) (p : Pm15) (hK9 : RowIs W oK (bytesV K9) cK) (hKl : K9.length <= 100) (hN : in64 N) (hok : p.ok) (hV : Cds W) (hE : E16 W A) :
    Calls Tryz.prog 34 #[.slice oK K9.length cK, .int .i64 N, .agg (pmA p)] W fun e w' => ∃ L v, e = .returned (.tuple #[.agg L.toArray, v]) /\ Ly16 A K9 N p L v w' /\ Below W.heap.size W w' := layout16_of _ rfl lk_zero _ rfl ly_zero ly_built0 A W oK cK K9 N p hK9 hKl hN hok hV hE
theorem Ly16.later {A : Nat -> Addr} {K : List UInt8} {N : Int} {p : Pm15} {L : List Value} {v : Value} {W W' : World} (h : Ly16 A K N p L v W) (hb : Below W.heap.size W W') : Ly16 A K N p L v W' := by
 obtain ⟨h1, h2, h3 | h3⟩ := h
 ·exact ⟨h1, h2, .inl ⟨h3.1, h3.2.1, h3.2.2.later hb⟩⟩
 ·exact ⟨h1, h2, .inr ⟨h3.1, h3.2.1.later hb, h3.2.2⟩⟩
theorem ly_at {xs : List Value} (h : Sl5 xs) (o : Option Addr) (n : Int) (i : Nat) (hi : i < 5) : (lyL16 xs o n)[i]? = xs[i]? := by
 unfold lyL16
 rw [List.getElem?_append_left (by rw [h.len]; exact hi)]
theorem ly_at5 {xs : List Value} (h : Sl5 xs) (o : Option Addr) (n : Int) : (lyL16 xs o n)[5]? = some (.pointer o) := by
 unfold lyL16
 rw [List.getElem?_append_right (by rw [h.len]; omega), h.len]
 rfl
theorem ly_at6 {xs : List Value} (h : Sl5 xs) (o : Option Addr) (n : Int) : (lyL16 xs o n)[6]? = some (.int .i64 n) := by
 unfold lyL16
 rw [List.getElem?_append_right (by rw [h.len]; omega), h.len]
 rfl
theorem Da.rdy16_both {K : List UInt8} {N : Int} {p : Pm15} (h : Da.rdy16 K N p = 0) : Da.bad15 p = 0 /\ Da.abad (Da.isMas K.length) (Da.inR N) = 0 := by
 unfold Da.rdy16 at h
 by_cases h0 : Da.bad15 p = 0
 ·rw [if_pos h0] at h
  exact ⟨h0, h⟩
 ·rw [if_neg h0] at h
  exact absurd ((Da.err15_zero (Da.bad15_le p)).1 h) h0
theorem sents16_any (K9 : List UInt8) (N : Int) (p : Pm15) (hr : Da.Right15 p) (L : List Value) (W : World) (h : Ly16At K9 N p L W) :
    Calls Tryz.prog 50 #[.agg L.toArray] W fun e w' => e = .returned (.int .i64 p.se) /\ Below W.heap.size W w' := by
 obtain ⟨xs, go, q, rfl, h5, hx, hO⟩ := h
 have hn := Da.n16_int hr
 have hn4 := Da.n16_le2 hr
 obtain ⟨n, hne⟩ : ∃ n, Da.n16 p = n := ⟨_, rfl⟩
 obtain ⟨T, hT⟩ : ∃ T, Da.tot15 p.sz = T := ⟨_, rfl⟩
 rw [hne] at hn hn4 hO
 rw [hT] at hn ⊢
 obtain ⟨g, hg⟩ : ∃ g, W.heap.size = g := ⟨_, rfl⟩
 obtain ⟨FL, hFL⟩ : ∃ FL, (lyL16 xs (some ⟨go, 0, none⟩) (T : Int)).toArray = FL := ⟨_, rfl⟩
 obtain ⟨W1, hW1⟩ : ∃ W1, W.alloc (.cells FL 79) = W1 := ⟨_, rfl⟩
 have hA1 : Arr W1 g 79 (lyL16 xs (some ⟨go, 0, none⟩) (T : Int)) := by unfold Arr; rw [hFL, <- hW1, <- hg]; exact World.alloc_heap_new W _
 have hb1 : Below W.heap.size W W1 := by rw [<- hW1]; exact new12 _ _
 obtain ⟨CC, hC⟩ : ∃ CC : World -> Prop, (fun v => Below W1.heap.size W1 v) = CC := ⟨_, rfl⟩
 have HCm : Hid (∀ v, CC v -> Below W1.heap.size W1 v) := Lh fun v hv => by rw [<- hC] at hv; exact hv
 have HCi : Hid (∀ v, Below W1.heap.size W1 v -> CC v) := Lh fun v hv => by rw [<- hC]; exact hv
 have hCC : CC { W1 with drawn := W1.drawn + 1 } := HCi.out _ (Kit.dn' W1 1)
 have HC5 : Hid (∀ v, CC v -> v.cell? ⟨g, 5, none⟩ = some (.pointer (some ⟨go, 0, none⟩))) := Lh fun v hv => by rw [(hA1.later (HCm.out v hv) hA1.lt).cell, ly_at5 h5]
 have HC6 : Hid (∀ v, CC v -> v.cell? ⟨g, 6, none⟩ = some (.int .i64 (T : Int))) := Lh fun v hv => by rw [(hA1.later (HCm.out v hv) hA1.lt).cell, ly_at6 h5]
 have HSZ : Hid (∀ v, CC v -> Calls Tryz.prog 94 #[.pointer (some ⟨go, 0, none⟩)] v fun e w' => e = .returned (.int .i64 (n : Int)) /\ w' = v) := Lh fun v hv => ssize_any go q _ n v (hO.later (Ks hb1 (HCm.out v hv)))
 have hws : IntKind.i64.wrap ((n : Int) - (T : Int)) = p.se := by rw [IntKind.wrap_i64]; have := hr.e0; have := hr.e1; omega
 have HB1 := Lh hb1
 have HW1 := Lh hW1
 have HG := Lh hg
 rw [hFL]
 clear hn hn4 hO hx h5 hA1 hb1 hW1 hC hne hT hg hFL hr
 go_enter Tryz.func50, Tryz.ntmps50
 go_upto_region 1 with fail
 rw [HW1.out, HG.out]
 refine wp_region_held (S := CC) (by kernel_rfl) ?_
 refine takeH16 (i := 0) (x := .pointer (some ⟨g, 5, none⟩)) rfl rfl (by kernel_rfl) (by kernel_rfl) (by kernel_rfl) (fun _ _ _ h => h) (Or.inl ⟨by kernel_rfl, fun w hw => by (go_simp <;> with_reducible rfl)⟩) hCC ?_
 simp only [List.setIfInBounds_toArray, List.set_cons_zero, List.set_cons_succ]
 refine takeH16 (i := 1) (x := .pointer (some ⟨go, 0, none⟩)) rfl rfl (by kernel_rfl) (by kernel_rfl) (by kernel_rfl) (fun _ _ _ h => h) (Or.inl ⟨by kernel_rfl, fun w hw => by have hc := HC5.out w hw; (go_simp <;> with_reducible rfl)⟩) hCC ?_
 simp only [List.setIfInBounds_toArray, List.set_cons_zero, List.set_cons_succ]
 refine takeH16 (i := 3) (x := .pointer (some ⟨g, 6, none⟩)) rfl rfl (by kernel_rfl) (by kernel_rfl) (by kernel_rfl) (fun _ _ _ h => h) (Or.inl ⟨by kernel_rfl, fun w hw => by (go_simp <;> with_reducible rfl)⟩) hCC ?_
 simp only [List.setIfInBounds_toArray, List.set_cons_zero, List.set_cons_succ]
 refine takeH16 (i := 4) (x := .int .i64 (T : Int)) rfl rfl (by kernel_rfl) (by kernel_rfl) (by kernel_rfl) (fun _ _ _ h => h) (Or.inl ⟨by kernel_rfl, fun w hw => by have hc := HC6.out w hw; (go_simp <;> with_reducible rfl)⟩) hCC ?_
 simp only [List.setIfInBounds_toArray, List.set_cons_zero, List.set_cons_succ]
 refine readyH16 (i := 2) (by kernel_rfl) rfl (by kernel_rfl) (fun K hK => ?_)
 go_simp
 refine (HSZ.out _ hCC).mono ?_
 rintro e Y1 ⟨rfl, rfl⟩
 refine hK _ _ hCC ?_
 clear hK K HSZ
 refine takeH16 (i := 5) (x := .int .i64 p.se) rfl rfl (by kernel_rfl) (by kernel_rfl) (by kernel_rfl) (fun _ _ _ h => h) (Or.inl ⟨by kernel_rfl, fun w hw => by (go_simp <;> with_reducible rfl)⟩) hCC ?_
 simp only [List.setIfInBounds_toArray, List.set_cons_zero, List.set_cons_succ]
 refine takeH16 (i := 6) (x := .int .i64 p.se) rfl rfl (by kernel_rfl) (by kernel_rfl) (by kernel_rfl) (fun _ _ _ h => h) (Or.inl ⟨by kernel_rfl, fun w hw => by (go_simp <;> with_reducible rfl)⟩) hCC ?_
 simp only [List.setIfInBounds_toArray, List.set_cons_zero, List.set_cons_succ]
 refine wpAnyH_done (by kernel_rfl) ?_ _
 have HB2 := Lh (Ks HB1.out (HCm.out _ hCC))
 clear hCC
 go_wp2_with fail
 go_ret
 exact ⟨rfl, HB2.out⟩
end Go.Proofs.YtffheegeaghfjaaGreatDoor
