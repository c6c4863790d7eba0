/- Ch16 -/
import Derived.Test.YtffheegeaghfjaaGreatDoorCg16
import Derived.Maps.AppendAt
set_option linter.unusedVariables false
set_option linter.unusedSimpArgs false
set_option maxRecDepth 100000
set_option maxHeartbeats 8000000
namespace Go.Proofs.YtffheegeaghfjaaGreatDoor
open Go.RowKit
theorem fill_list16 {α : Type} (off : Nat) : ∀ (vs : List α) (k : Nat) (cs : List α), off + k + vs.length <= cs.length ->
    ((vs.zipIdx k).foldl (fun (c : List α) x => c.set (off + x.2) x.1) cs) = cs.take (off + k) ++ vs ++ cs.drop (off + k + vs.length)
 | [], k, cs, h => by simp
 | v :: vs, k, cs, h => by
  rw [List.zipIdx_cons, List.foldl_cons, fill_list16 off vs (k + 1) _ (by simp at h ⊢; omega)]
  simp only [List.length_cons] at h ⊢
  have h1 : (cs.set (off + k) v).take (off + (k + 1)) = cs.take (off + k) ++ [v] := by
   rw [show off + (k + 1) = (off + k) + 1 by omega, List.take_add_one, List.take_set_of_le (by omega)]
   congr 1
   rw [List.getElem?_set_self (by omega)]
   rfl
  rw [h1, List.drop_set_of_lt (by omega), show off + (k + 1) + vs.length = off + k + (vs.length + 1) by omega]
  simp [List.append_assoc]
theorem fill_arr16 {α : Type} (off : Nat) (vs cs : Array α) (h : off + vs.size <= cs.size) :
    (vs.zipIdx.foldl (fun (c : Array α) (x : α × Nat) => c.setIfInBounds (off + x.2) x.1) cs).toList = cs.toList.take off ++ vs.toList ++ cs.toList.drop (off + vs.size) := by
 have e : ∀ (l : List (α × Nat)) (c : Array α), (l.foldl (fun (c : Array α) (x : α × Nat) => c.setIfInBounds (off + x.2) x.1) c).toList = l.foldl (fun (c : List α) x => c.set (off + x.2) x.1) c.toList := by
  intro l
  induction l with
  | nil => intro c; rfl
  | cons a t ih => intro c; rw [List.foldl_cons, List.foldl_cons, ih]; simp
 rw [<- Array.foldl_toList, e, Array.toList_zipIdx, fill_list16 off vs.toList 0 cs.toList (by simpa using h)]
 simp
theorem fill_step16 (place : Nat -> Option (Nat × Nat)) (cs : Array Value) (i off : Nat) (v : Value) (rest : List (Nat × Value)) (xs : List Value) (h : place i = some (off, xs.length)) (hv : v.cells = xs.toArray) (hl : off + xs.length <= cs.size) :
    Instr.fill place cs ((i, v) :: rest) = Instr.fill place (cs.toList.take off ++ xs ++ cs.toList.drop (off + xs.length)).toArray rest := by
 rw [Instr.fill, h]
 dsimp only
 rw [hv, if_neg (by simp; omega)]
 congr 1
 apply Array.toList_inj.1
 have := fill_arr16 off xs.toArray cs (by simpa using hl)
 simpa using this
theorem sld_built0 (parts : List (Nat × Value)) : Tryz.prog.built 34 parts = Instr.fill (([(0, 1), (1, 32), (33, 32)] : List (Nat × Nat)).toArray[·]?) (sldL (.slice none 0 0) Da.zd16 Da.zd16).toArray parts := by kernel_rfl
theorem sld_built (o : Option Addr) (l c : Nat) (R F : List UInt8) (hR : R.length = 32) (hF : F.length = 32) : Tryz.prog.built 34 [(0, .slice o l c), (1, .agg (bytesV R).toArray), (2, .agg (bytesV F).toArray)] = some (sldL (.slice o l c) R F).toArray := by
 have hz : Da.zd16.length = 32 := rfl
 rw [sld_built0, fill_step16 _ _ 0 0 _ _ [.slice o l c] rfl rfl (by simp [sldL])]
 rw [fill_step16 _ _ 1 1 _ _ (bytesV R) (by simp [hR]) rfl (by simp [sldL, hz, hR])]
 rw [fill_step16 _ _ 2 33 _ _ (bytesV F) (by simp [hF]) rfl (by simp [sldL, hz, hR, hF])]
 rw [Instr.fill]
 congr 2
 simp [sldL, hz, hR, hF, List.take_append, List.drop_append, List.take_of_length_le, List.drop_of_length_le]
theorem sld_build0 (w : World) : (Instr.build 34 #[]).run Tryz.prog w = .ok (.agg (sldL (.slice none 0 0) Da.zd16 Da.zd16).toArray) w := by kernel_rfl
def Da.blk16 (K : List UInt8) (N : Int) (F : List UInt8) (n : Nat) : List (List UInt8) := (List.range n).map (Da.raw16 K N F)
@[simp] theorem Da.blk16_length (K : List UInt8) (N : Int) (F : List UInt8) (n : Nat) : (Da.blk16 K N F n).length = n := by simp [Da.blk16]
theorem Da.blk16_at (K : List UInt8) (N : Int) (F : List UInt8) (n i : Nat) (hi : i < n) : bi (Da.blk16 K N F n) i = Da.raw16 K N F i := by
 unfold bi
 rw [List.getD_eq_getElem?_getD]
 simp [Da.blk16, hi]
theorem Da.blk16_succ (K : List UInt8) (N : Int) (F : List UInt8) (n : Nat) : Da.blk16 K N F (n + 1) = Da.blk16 K N F n ++ [Da.raw16 K N F n] := by simp [Da.blk16, List.range_succ]
theorem Da.mbs_zero16 (bs : List (List UInt8)) (n : Nat) (h : ∀ b ∈ bs, b.length = 8) (hn : n + bs.length <= 1000000) : Da.mbs (n : Int) bs = 0 := by
 induction bs generalizing n with
 | nil => rfl
 | cons b t ih =>
  unfold Da.mbs
  rw [if_pos (Da.mb16 b n (h b List.mem_cons_self) (by simp at hn; omega))]
  have := ih (n + 1) (fun c hc => h c (List.mem_cons_of_mem _ hc)) (by simp at hn; omega)
  rw [show ((n + 1 : Nat) : Int) = (n : Int) + 1 by omega] at this
  exact this
theorem allB_all16 (F : List UInt8) : ∀ b ∈ allB F, b.length = 8 := fun b hb => by
 obtain ⟨i, hi, e⟩ := List.getElem_of_mem hb
 have := allB_eight16 F i hi
 unfold bi at this
 rw [List.getD_eq_getElem?_getD, List.getElem?_eq_getElem hi, e] at this
 exact this
theorem Da.mkL_blk16 (K : List UInt8) (N : Int) (F : List UInt8) (hl : (allB F).length <= 1000000) : Da.mkL (Da.key16 K N 0) 0 (allB F) = Da.blk16 K N F (allB F).length := by
 apply List.ext_getElem (by rw [Da.mkL_length, Da.blk16_length])
 intro i h1 h2
 rw [Da.blk16_length] at h2
 have e1 : ∀ (l : List (List UInt8)) (h : i < l.length), l[i] = bi l i := fun l h => by
  unfold bi
  rw [List.getD_eq_getElem?_getD, List.getElem?_eq_getElem h]
  rfl
 rw [e1, e1, Da.mkL_at _ _ _ _ h2, Da.blk16_at _ _ _ _ _ h2]
 unfold Da.raw16 Da.mk1
 rw [if_pos h2, if_pos (Da.mb16 _ i (allB_eight16 F i h2) (by omega)), Int.zero_add]
theorem own_arrB16 {W : World} {base b : Nat} {xs : List Value} (h : Arr W b 22 xs) (hb : base <= b) (hm : xs.length <= maxLen) : W.ownsRow base 22 1 (.slice (some ⟨b, 0, none⟩) xs.length xs.length) xs.length xs :=
 ⟨by simp, .inr ⟨b, xs.length, xs.toArray, rfl, hb, h, Nat.le_refl _, hm, by simp, by rw [Nat.mul_one]; exact List.take_of_length_le (by simp)⟩⟩
theorem own_laterB16 {T : TypeId} {W W' : World} {n : Nat} {v : Value} {xs : List Value} {m : Nat} (h : W.ownsRow n T 1 v m xs) (hb : Below W.heap.size W W') : W'.ownsRow n T 1 v m xs := by
 obtain ⟨h1, h2 | ⟨g, cap, cur, e, hbs, hg, hr⟩⟩ := h
 ·exact ⟨h1, .inl h2⟩
 ·exact ⟨h1, .inr ⟨g, cap, cur, e, hbs, by rw [hb.block g (aE.1 hg).1]; exact hg, hr⟩⟩
theorem els_kept16 {W W' : World} {bs : List (List UInt8)} {xs : List Value} {r : Option Nat} (h : Els W bs xs) (hg : W.grownBy W' r) (hn : ∀ ad l c, Value.slice (some ad) l c ∈ xs -> r ≠ some ad.block) : Els W' bs xs :=
 ⟨h.len, fun i x hx => by
  obtain ⟨o, c, rfl, hr⟩ := h.at_ i x hx
  exact ⟨o, c, rfl, hr.kept hg (fun _ ad e => by subst e; exact (hn ad _ _ (List.mem_of_getElem? hx)).symm)⟩⟩
theorem els_lt16 {W : World} {bs : List (List UInt8)} {xs : List Value} (h : Els W bs xs) (h8 : ∀ i, i < bs.length -> 0 < (bi bs i).length) : ∀ ad l c, Value.slice (some ad) l c ∈ xs -> ad.block < W.heap.size := fun ad l c hm => by
 obtain ⟨i, hi, e⟩ := List.getElem_of_mem hm
 obtain ⟨o, c', e2, hr⟩ := h.at_ i _ (by rw [List.getElem?_eq_getElem hi, e])
 cases e2
 obtain ⟨b, off, e3, hlt, _⟩ := hr.cells (by rw [bytesV_length]; exact h8 i (by rw [<- h.len]; exact hi))
 cases e3
 exact hlt
def Bl16 (K : List UInt8) (N : Int) (F : List UInt8) (T s : Nat) (W1 : World) (v iv : Value) (wr : World) : Prop :=
 ∃ (k : Nat) (xs : List Value), k <= s /\ iv = .int .i64 (k : Int) /\ wr.ownsRow W1.heap.size 22 1 v (T + k) xs /\ Els wr (Da.blk16 K N F (T + k)) xs /\ (∀ ad l c, Value.slice (some ad) l c ∈ xs -> v.ownBlock ≠ some ad.block) /\ Below W1.heap.size W1 wr
theorem blocks16_any (A : Nat -> Addr) (W : World) (K9 : List UInt8) (N : Int) (p : Pm15) (L : List Value) (oF : Option Addr) (cF : Nat) (F : List UInt8) (hR : Da.Right15 p) (hsz : (F.length : Int) = p.sz) (hfl : F.length <= 400) (hLy : Ly16At K9 N p L W) (hF : RowIs W oF (bytesV F) cF) (hV : Cds W) (hE : E16 W A) :
    Calls Tryz.prog 35 #[.agg L.toArray, .slice oF F.length cF] W fun e w' => ∃ x, e = .returned (.tuple #[x, .nilIface]) /\ RbV (Da.blk16 K9 N F (Da.n16 p)) x w' /\ Below W.heap.size W w' := by
 have hLc := hLy
 obtain ⟨xs, go, q, hLe, h5, hx, hO⟩ := hLc
 have hal : (allB F).length = Da.tot15 p.sz := by
  rw [allB_length]
  unfold Da.tot15
  rw [show p.sz.toNat = F.length by omega]
 have hn90 := Da.n16_le hR (by omega)
 obtain ⟨Tn, hT⟩ : ∃ Tn, Da.tot15 p.sz = Tn := ⟨_, rfl⟩
 obtain ⟨s, hs⟩ : ∃ s, p.se.toNat = s := ⟨_, rfl⟩
 have hse : p.se = (s : Int) := by have := hR.e0; omega
 have hnT : Da.n16 p = Tn + s := by unfold Da.n16; rw [hT, hs]
 rw [hT] at hal
 rw [hnT] at hn90 ⊢
 obtain ⟨g, hg⟩ : ∃ g, W.heap.size = g := ⟨_, rfl⟩
 obtain ⟨FL, hFL⟩ : ∃ FL, L.toArray = FL := ⟨_, rfl⟩
 obtain ⟨W1, hW1⟩ : ∃ W1, W.alloc (.cells FL 79) = W1 := ⟨_, rfl⟩
 have hA1 : Arr W1 g 79 L := by unfold Arr; rw [hFL, <- hW1, <- hg]; exact World.alloc_heap_new W _
 have hb1 : Below W.heap.size W W1 := by rw [<- hW1]; exact new12 _ _
 have HCI : Hid (∀ w' i, i < 5 -> Below W1.heap.size W1 w' -> w'.cell? ⟨g, i, none⟩ = xs[i]?) := Lh fun w' i hi hb => by rw [(hA1.later hb hA1.lt).cell, hLe, ly_at h5 _ _ i hi]
 have HFH : Hid (∀ w', Below W1.heap.size W1 w' -> w'.heap[g]? = some (.cells FL 79 (0, 0))) := Lh fun w' hb => by
  have := hA1.later hb hA1.lt
  unfold Arr at this
  rw [hFL] at this
  exact this
 have HLS : Hid ((Tryz.prog.info? 79).map (·.size) = some FL.size) := Lh (by rw [ly_info, <- hFL, hLe, ly_size h5])
 have HSS : Hid (∀ w', Below W1.heap.size W1 w' -> Calls Tryz.prog 50 #[.agg FL] w' fun e w2 => e = .returned (.int .i64 (s : Int)) /\ Below w'.heap.size w' w2) := Lh fun w' hb => by
  rw [<- hFL, <- hse]
  exact sents16_any K9 N p hR L w' (hLy.later (Ks hb1 hb))
 have hbl := cblocks_any F oF cF W1 (hF.later hb1) (by omega)
 obtain ⟨lf, hlf⟩ : ∃ lf, F.length = lf := ⟨_, rfl⟩
 rw [hlf] at hbl ⊢
 have HBL := Lh hbl
 have HX := Lh hx
 have HV := Lh hV
 have HE := Lh hE
 have HB1 := Lh hb1
 have HW1 := Lh hW1
 have HG := Lh hg
 have HAL := Lh hal
 have HN90 := Lh hn90
 have hnn := neq_nil
 rw [hFL]
 clear hbl hx hV hE hb1 hW1 hg hal hn90 hLy hLe h5 hO hF hR hsz hfl hT hs hse hnT hFL hA1 hlf
 go_enter Tryz.func35, Tryz.ntmps35
 go_upto_region 1 with fail
 rw [HW1.out, HG.out]
 apply wp_region_lit
 (refine wpList_plain rfl (fun K hK => ?_); go_simp; refine hK _ _ ?_; clear hK K)
 (refine wpList_plain rfl (fun K hK => ?_); go_simp)
 refine HBL.out.mono ?_
 rintro e W2 ⟨y, rfl, hy, hb2⟩
 refine hK _ _ ?_
 clear hK K HBL
 obtain ⟨oy, cy, rfl, hry⟩ := hy
 rw [HAL.out]
 have HRY := Lh hry
 have HB2 := Lh hb2
 clear hry hb2
 iterate 5 (refine wpList_plain rfl (fun K hK => ?_); go_simp; refine hK _ _ ?_; clear hK K)
 have hx2 := HX.out.later (Ks HB1.out HB2.out)
 obtain ⟨x0, hx0, hr0⟩ := hx2.key16 0 (by omega)
 have hk0l := Da.key16_length K9 N 0 (by omega)
 obtain ⟨o0, c0, rfl, hr0⟩ := hr0
 have hms := masks_own (Da.key16 K9 N 0) o0 c0 0 (allB F) oy cy A W2 hr0 HRY.out (HV.out.later (Ks HB1.out HB2.out)) (HE.out.later (Ks HB1.out HB2.out)).e10 (by rw [hk0l]; omega) (by rw [HAL.out]; have := HN90.out; omega) (by omega) (by omega)
 have hmz : Da.mbs 0 (allB F) = 0 := Da.mbs_zero16 (allB F) 0 (allB_all16 F) (by rw [HAL.out]; have := HN90.out; omega)
 rw [hmz, hk0l, HAL.out, Da.mkL_blk16 K9 N F (by rw [HAL.out]; have := HN90.out; omega), HAL.out] at hms
 rw [hk0l] at hx0
 have hc0 : W2.cell? ⟨g, 0, none⟩ = some (.slice o0 32 c0) := by rw [HCI.out W2 0 (by omega) HB2.out]; exact hx0
 have HMS := Lh hms
 clear hx2 hx0 hr0 hk0l hms hmz
 go_upto_region 4 with fail
 apply wp_region_lit
 iterate 4 (refine wpList_plain rfl (fun K hK => ?_); go_simp; refine hK _ _ ?_; clear hK K)
 (refine wpList_plain rfl (fun K hK => ?_); go_simp)
 refine HMS.out.mono ?_
 rintro e W3 ⟨y3, rfl, _, hb3, hown⟩
 refine hK _ _ ?_
 clear hK K HMS hc0
 obtain ⟨g3, ys, rfl, hg3, hA3, hE3, hap⟩ := hown rfl
 clear hown
 have HB3 := Lh (Ks HB2.out hb3)
 have hyl : ys.length = Tn := by rw [hE3.len, Da.blk16_length]
 have hwn : W3.ownsRow W1.heap.size 22 1 (.slice (some ⟨g3, 0, none⟩) Tn Tn) (Tn + 0) ys := by
  have := own_arrB16 (base := W1.heap.size) hA3 (by have := HB2.out.size; omega) (by rw [hyl]; have := HN90.out; unfold maxLen; omega)
  rw [hyl] at this
  exact this
 have HE3 := Lh hE3
 have HWN := Lh hwn
 have HAP := Lh hap
 rw [errV_nil]
 clear hg3 hA3 hE3 hap hb3 hyl hwn
 iterate 5 (refine wpList_plain rfl (fun K hK => ?_); go_simp; refine hK _ _ ?_; clear hK K)
 go_upto_region 7 with fail
 apply wp_region_lit
 refine wpList_load_row rfl 79 (.tmp 2) rfl g rfl 79 FL (0, 0) _ (HFH.out W3 HB3.out) Tryz.underlying79 rfl HLS.out ?_
 (refine wpList_plain rfl (fun K hK => ?_); go_simp)
 refine (HSS.out W3 HB3.out).mono ?_
 rintro e W4 ⟨rfl, hb4⟩
 refine hK _ _ ?_
 clear hK K HSS
 have HX0 : Hid (Bl16 K9 N F Tn s W1 (.slice (some ⟨g3, 0, none⟩) Tn Tn) (.int .i64 0) W4) := Lh ⟨0, ys, Nat.zero_le _, rfl, own_laterB16 HWN.out hb4, HE3.out.later hb4, fun ad l c hm h => HAP.out ad l c hm (by injection h with h; exact h.symm), Ks HB3.out hb4⟩
 clear hb4 HWN HE3 HAP HB3 HB2 HRY
 (refine wpList_plain rfl (fun K hK => ?_); go_simp; refine hK _ _ ?_; clear hK K)
 go_wp2_with fail
 go_loopw [8, 33] (fun v iv wr => Bl16 K9 N F Tn s W1 v iv wr) (fun _ iv _ => s - (intOf iv).toNat)
 case atStart => exact HX0.out
 case round =>
  obtain ⟨k, zs, hk, rfl, hown, hEl, hap, hB⟩ := hrel
  have HOW := Lh hown
  have HEL := Lh hEl
  have HAP := Lh hap
  have HBR := Lh hB
  clear hown hEl hap hB HX0
  by_cases hlt : k < s
  ·as_aux_lemma =>
    have hx4 := HX.out.later (Ks HB1.out HBR.out)
    obtain ⟨x2, hx2, hr2⟩ := hx4.key16 2 (by omega)
    have hk2l := Da.key16_length K9 N 2 (by omega)
    obtain ⟨o2, c2, rfl, hr2⟩ := hr2
    have hbk := cblk_own (Da.key16 K9 N 2) o2 c2 (k : Int) A wr hr2 (HV.out.later (Ks HB1.out HBR.out)) (HE.out.later (Ks HB1.out HBR.out)).e10 (by rw [hk2l]; omega)
    have hrb0 : Da.rb (k : Int) = 0 := by unfold Da.rb; rw [Da.inR16 _ (by have := HN90.out; omega)]; rfl
    rw [hrb0, hk2l] at hbk
    rw [hk2l] at hx2
    have HC2 : Hid (wr.cell? ⟨g, 2, none⟩ = some (.slice o2 32 c2)) := Lh (by rw [HCI.out wr 2 (by omega) HBR.out]; exact hx2)
    have HBK := Lh hbk
    clear hx4 hx2 hr2 hk2l hbk hrb0
    have hc2 := HC2.out
    have dk : decide ((k : Int) < (s : Int)) = true := decide_eq_true (by omega)
    have dk2 : decide (k < s) = true := decide_eq_true hlt
    go_upto_region 10 with fail
    apply wp_region_lit
    iterate 4 (refine wpList_plain rfl (fun K hK => ?_); go_simp; refine hK _ _ ?_; clear hK K)
    (refine wpList_plain rfl (fun K hK => ?_); go_simp)
    refine HBK.out.mono ?_
    rintro e W5 ⟨xb, rfl, hxb, hb5, hfr⟩
    refine hK _ _ ?_
    clear hK K HBK hc2 HC2
    obtain ⟨ob, cb, rfl, hrb⟩ := hxb
    have hl8 : (Da.kres 0 (Da.sb (Da.key16 K9 N 2) (k : Int))).length = 8 := by
     show (Da.sb _ _).length = 8
     exact Da.sb_length _ _
    have hraw : Da.raw16 K9 N F (Tn + k) = Da.sb (Da.key16 K9 N 2) (k : Int) := by
     unfold Da.raw16
     rw [HAL.out, if_neg (by omega), show Tn + k - Tn = k by omega]
    rw [hl8]
    rw [hl8] at hfr
    have hrv : RowV (Da.raw16 K9 N F (Tn + k)) (.slice ob 8 cb) W5 := by
     rw [hraw]
     exact ⟨ob, cb, by rw [Da.sb_length], hrb⟩
    have hown5 := own_laterB16 HOW.out hb5
    have hel5 := HEL.out.later hb5
    have hlt5 : ∀ k2, u8.ownBlock = some k2 -> k2 < wr.heap.size := fun k2 e => (World.ownsRow.lt HOW.out k2 e).2
    have hB5 := Ks HBR.out hb5
    obtain ⟨gh, hgh⟩ : ∃ gh, W5.heap.size = gh := ⟨_, rfl⟩
    obtain ⟨W6, hW6⟩ : ∃ W6, W5.alloc (.cells #[.slice ob 8 cb] 22) = W6 := ⟨_, rfl⟩
    have hb6 : Below W5.heap.size W5 W6 := by rw [<- hW6]; exact new12 _ _
    have hs6 : W6.heap.size = gh + 1 := by rw [<- hW6, World.size_alloc, hgh]
    have HRB5 : ∀ ad, ob = some ad -> ad.block < W5.heap.size := fun ad e => by
     obtain ⟨b, off, e3, hlt3, _⟩ := hrb.cells (by rw [bytesV_length, hl8]; omega)
     rw [e] at e3
     cases e3
     exact hlt3
    have hnew : ∀ u, Value.slice (some u) 8 cb = .slice ob 8 cb -> wr.heap.size <= u.block /\ u.block < gh := fun u e => by
     injection e with e1 e2 e3
     exact ⟨hfr u 8 cb (by rw [<- e1]), by rw [<- hgh]; exact HRB5 u e1.symm⟩
    have HH6 : Hid (∀ j u, ([.slice ob 8 cb] : List Value)[j]? = some u -> W6.cell? ((⟨gh, 0, none⟩ : Addr).add j) = some u) := Lh (by rw [<- hW6, <- hgh]; exact cell_one_new _ _ _)
    have hold := els_lt16 HEL.out (fun i hi => by rw [Da.blk16_length] at hi; rw [Da.blk16_at _ _ _ _ _ hi, Da.raw16_length _ _ _ _ (by have := HN90.out; omega)]; omega)
    have HOW6 := Lh (own_laterB16 hown5 hb6)
    have HEL6 := Lh (hel5.later hb6)
    have HRV6 := Lh (hrv.later hb6)
    have HB6 := Lh (Ks hB5 hb6)
    have HNEW := Lh hnew
    have HOLD := Lh hold
    have HLT5 := Lh hlt5
    have HS6 : Hid (wr.heap.size <= gh /\ W6.heap.size = gh + 1) := Lh ⟨by rw [<- hgh]; exact hb5.size, hs6⟩
    have HW6 := Lh hW6
    have HGH := Lh hgh
    rw [errV_nil]
    clear hrb hl8 hraw hrv hown5 hel5 hlt5 hB5 hgh hW6 hb6 hs6 HRB5 hnew hold hb5 hfr
    iterate 5 (refine wpList_plain rfl (fun K hK => ?_); go_simp; refine hK _ _ ?_; clear hK K)
    go_upto_region 13 with fail
    apply wp_region_lit
    iterate 2 (refine wpList_plain rfl (fun K hK => ?_); go_simp; refine hK _ _ ?_; clear hK K)
    (refine wpList_plain rfl (fun K hK => ?_); go_simp; rw [HW6.out, HGH.out]; refine hK _ _ ?_; clear hK K)
    obtain ⟨i0, hi, hz0, hz1, hz2⟩ := info_parts info_rowB
    refine wpList_append_own_at W6 rfl (.tmp 47) (.tmp 49) 30 rfl W1.heap.size 22 i0 (.slice none 0 0) 1 24 Tryz.underlying30 hi hz0 hz1 hz2 rfl (by decide) u8 (Tn + k) zs rfl HOW6.out ⟨gh, 0, none⟩ 1 1 [.slice ob 8 cb] rfl rfl HH6.out ?hone ?h63 ?hby ?hbase ?_
    case hone =>
     intro u hu
     rw [List.mem_singleton] at hu
     subst hu
     rfl
    case h63 => have := HN90.out; unfold maxLen; omega
    case hby => have := HN90.out; omega
    case hbase => exact HB6.out.size
    intro v' W7 hown hgr _ hat
    have hX1 : Bl16 K9 N F Tn s W1 v' (.int .i64 ((k : Int) + 1)) W7 := by
     have hap6 : ∀ ad l c, Value.slice (some ad) l c ∈ zs ++ [.slice ob 8 cb] -> u8.ownBlock ≠ some ad.block /\ ad.block < W6.heap.size := fun ad l c hm => by
      have hs := HS6.out
      rcases List.mem_append.1 hm with hm | hm
      ·have := HOLD.out ad l c hm
       exact ⟨HAP.out ad l c hm, by omega⟩
      ·rw [List.mem_singleton] at hm
       injection hm with e1 e2 e3
       have := HNEW.out ad (by rw [e1])
       exact ⟨fun h => by have := HLT5.out _ h; omega, by omega⟩
     have hEL7 := (HEL6.out.app (Els.one HRV6.out))
     rw [<- Da.blk16_succ] at hEL7
     have hEL8 := els_kept16 hEL7 hgr (fun ad l c hm => (hap6 ad l c hm).1)
     refine ⟨k + 1, zs ++ [.slice ob 8 cb], by omega, by go_num, hown, hEL8, fun ad l c hm h => ?_, ?_⟩
     ·obtain ⟨h1, h2⟩ := hap6 ad l c hm
      rcases hat with h3 | h3
      ·exact h1 (h3 ▸ h)
      ·rw [h3] at h
       injection h with h
       omega
     ·exact own_belowB HB6.out HOW6.out hgr
    have HX1 := Lh hX1
    clear hown hgr hat hX1 hi hz0 hz1 hz2
    obtain ⟨o', l', c', rfl⟩ : ∃ o l c, v' = Value.slice o l c := by
     obtain ⟨_, _, _, _, h, _⟩ := HX1.out
     rcases h.2 with ⟨rfl, _⟩ | ⟨_, _, _, rfl, _⟩
     ·exact ⟨_, _, _, rfl⟩
     ·exact ⟨_, _, _, rfl⟩
    have hk9 := HN90.out
    go_wp2_with fail
    exact ⟨HX1.out, by simp [intOf]; omega⟩
  ·obtain rfl : k = s := by omega
   have dk : decide ((k : Int) < (k : Int)) = false := decide_eq_false (by omega)
   have dk2 : decide (k < k) = false := decide_eq_false (by omega)
   have hrv := owns_rb HOW.out (by rw [Da.blk16_length]) HEL.out
   have HRV := Lh hrv
   clear hrv
   go_wp2_with fail
   refine bodyPost_ret (results_tmp2 rfl _ _ _) rfl ?_
   exact ⟨_, rfl, HRV.out, Ks HB1.out HBR.out⟩
section
variable {P : Program} {md : Region.Mode} {ops : Array Oper} {Q : Exit -> Act -> World -> Prop} {S : World -> Prop} {fuel : Nat} {listed : Array Bool} {a : Act} {w : World}
theorem readyH2_16 {i j : Nat} {o1 o2 : Oper} (hr : Region.ready md ops listed = [i, j]) (h1 : ops[i]? = some o1) (h2 : ops[j]? = some o2) (hw1 : Region.wanted o1 (yielded ops a.tmps) = true) (hw2 : Region.wanted o2 (yielded ops a.tmps) = true)
    (k1 : ∀ K : Act -> World -> Prop, (∀ a' w', S w' -> wpAnyH P md ops Q S fuel (listed.setIfInBounds i true) a' w' -> K a' w') -> o1.wp P a w K Q)
    (k2 : ∀ K : Act -> World -> Prop, (∀ a' w', S w' -> wpAnyH P md ops Q S fuel (listed.setIfInBounds j true) a' w' -> K a' w') -> o2.wp P a w K Q) : wpAnyH P md ops Q S (fuel + 1) listed a w :=
 wpAnyH_all hr (by simp) fun t ht => by
  have ht2 : t = i ∨ t = j := by simpa using ht
  rcases ht2 with rfl | rfl
  ·exact wpOp16_of h1 hw1 (k1 _ fun a' w' h1 h2 => ⟨h1, h2⟩)
  ·exact wpOp16_of h2 hw2 (k2 _ fun a' w' h1 h2 => ⟨h1, h2⟩)
end
theorem make_rows16 (N : Nat) (h : N <= 2000) (W : World) : (Instr.makeSlice 30 (.int .i64 (N : Int)) (.int .i64 (N : Int))).run Tryz.prog W = .ok (.slice (some ⟨W.heap.size, 0, none⟩) N N) (W.alloc (.cells (Array.replicate N (.slice none 0 0)) 22)) := by
 obtain ⟨i, hh, hz0, hz1, hz2⟩ := info_parts info_rowB
 have := run_make (P := Tryz.prog) W 30 22 i (.slice none 0 0) Tryz.underlying30 hh hz0 .i64 .i64 (N : Int) (N : Int) (by omega) (by omega) (by rw [hz2]; omega) (by omega)
 rw [this, hz1]
 simp only [Int.toNat_natCast, Nat.mul_one]
 congr 3
 apply Array.ext
 ·simp [madeCells]
 ·intro k h1 h2
  simp [madeCells, Value.cells]
  rw [Nat.mod_one]; rfl
def Ld16 (MK : List UInt8) (N : Int) (F : List UInt8) (p : Pm15) (go n gm bo : Nat) (W wb : World) (v19 : Value) (wr : World) : Prop :=
 ∃ (k : Nat) (xs : List Value), k <= n /\ v19 = .int .i64 (k : Int) /\ Arr wr go 22 xs /\ Els wr (Da.st16 MK N F p k) xs /\ (∀ ad l c, Value.slice (some ad) l c ∈ xs -> W.heap.size <= ad.block) /\ Arr wr gm 175 (bytesV (Da.fil (Da.key16 MK N 3))) /\ Arr wr bo 3 (Da.ilst (Da.key16 MK N 1) n n) /\ Below wb.heap.size wb wr
theorem laid16_any (W : World) (K9 : List UInt8) (N : Int) (F : List UInt8) (p : Pm15) (L : List Value) (n : Nat) (hne : Da.n16 p = n) (hn4 : n <= 400) (hn0 : 0 < n) (hLy : Ly16At K9 N p L W) (oB : Option Addr) (cB : Nat) (hB : RbIs W oB (Da.blk16 K9 N F n) cB) (hV : Cds W) :
    Calls Tryz.prog 36 #[.agg L.toArray, .slice oB n cB] W fun e w' => ∃ gs ys, e = .returned (.slice (some ⟨gs, 0, none⟩) n n) /\ W.heap.size <= gs /\ Arr w' gs 22 ys /\ Els w' (Da.all16 K9 N F p) ys /\ (∀ ad l c, Value.slice (some ad) l c ∈ ys -> W.heap.size <= ad.block) /\ Below W.heap.size W w' := by
 obtain ⟨xs, go, q, hLe, h5, hx, hO⟩ := hLy
 rw [hne] at hO
 obtain ⟨g, hg⟩ : ∃ g, W.heap.size = g := ⟨_, rfl⟩
 obtain ⟨FL, hFL⟩ : ∃ FL, L.toArray = FL := ⟨_, rfl⟩
 obtain ⟨W1, hW1⟩ : ∃ W1, W.alloc (.cells FL 79) = W1 := ⟨_, rfl⟩
 have hA1 : Arr W1 g 79 L := by unfold Arr; rw [hFL, <- hW1, <- hg]; exact World.alloc_heap_new W _
 have hb1 : Below W.heap.size W W1 := by rw [<- hW1]; exact new12 _ _
 obtain ⟨CC, hC⟩ : ∃ CC : World -> Prop, (fun v => Below W1.heap.size W1 v) = CC := ⟨_, rfl⟩
 have HCm : Hid (∀ v, CC v -> Below W1.heap.size W1 v) := Lh fun v hv => by rw [<- hC] at hv; exact hv
 have HCi : Hid (∀ v, Below W1.heap.size W1 v -> CC v) := Lh fun v hv => by rw [<- hC]; exact hv
 have hCC : CC { W1 with drawn := W1.drawn + 1 } := HCi.out _ (Kit.dn' W1 1)
 obtain ⟨x3, hx3, hr3⟩ := hx.key16 3 (by omega)
 have hk3l := Da.key16_length K9 N 3 (by omega)
 obtain ⟨o3, c3, rfl, hr3⟩ := hr3
 rw [hk3l] at hx3
 have HC3 : Hid (∀ v, CC v -> v.cell? ⟨g, 3, none⟩ = some (.slice o3 32 c3)) := Lh fun v hv => by rw [(hA1.later (HCm.out v hv) hA1.lt).cell, hLe, ly_at h5 _ _ 3 (by omega)]; exact hx3
 have HC5 : Hid (∀ v, CC v -> v.cell? ⟨g, 5, none⟩ = some (.pointer (some ⟨go, 0, none⟩))) := Lh fun v hv => by rw [(hA1.later (HCm.out v hv) hA1.lt).cell, hLe, ly_at5 h5]
 have HMK : Hid (∀ v, CC v -> Calls Tryz.prog 53 #[.slice o3 32 c3] v fun e w' => ∃ gm, e = .returned (.pointer (some ⟨gm, 0, none⟩)) /\ Arr w' gm 175 (bytesV (Da.fil (Da.key16 K9 N 3))) /\ Below v.heap.size v w') := Lh fun v hv => by
  have := kmake_any (Da.key16 K9 N 3) o3 c3 v (hr3.later (Ks hb1 (HCm.out v hv))) (hV.later (Ks hb1 (HCm.out v hv))) (by rw [hk3l]; omega)
  rw [hk3l] at this
  exact this.mono fun e w' ⟨h1, h2, h3⟩ => ⟨_, h1, h2, h3⟩
 have HMR : Hid (∀ W, (Instr.makeSlice 30 (.int .i64 (n : Int)) (.int .i64 (n : Int))).run Tryz.prog W = .ok (.slice (some ⟨W.heap.size, 0, none⟩) n n) (W.alloc (.cells (Array.replicate n (.slice none 0 0)) 22))) := Lh (make_rows16 n (by omega))
 have HAL : Hid (∀ v, CC v -> Calls Tryz.prog 74 #[.pointer (some ⟨go, 0, none⟩)] v fun e w' => ∃ b, e = .returned (.slice (some ⟨b, 0, none⟩) n n) /\ Arr w' b 3 (Da.ilst (Da.key16 K9 N 1) n n) /\ Below v.heap.size v w') := Lh fun v hv => sall_any go q _ n (by omega) v (hO.later (Ks hb1 (HCm.out v hv))) (hV.later (Ks hb1 (HCm.out v hv)))
 have HB1 := Lh hb1
 have HW1 := Lh hW1
 have HG := Lh hg
 have HNE := Lh hne
 have HV := Lh hV
 have HBB := Lh hB
 have HN4 := Lh hn4
 have HN0 := Lh hn0
 rw [hFL]
 clear hLe h5 hx hO hg hFL hW1 hA1 hb1 hC hx3 hr3 hk3l hne hV hB hn0
 go_enter Tryz.func36, Tryz.ntmps36
 go_upto_region 1 with fail
 rw [HW1.out, HG.out]
 refine wp_region_held (S := CC) (by kernel_rfl) ?_
 refine takeH16 (i := 0) (x := .pointer (some ⟨g, 0, none⟩)) rfl rfl (by kernel_rfl) (by kernel_rfl) (by kernel_rfl) (fun _ _ _ h => h) (Or.inl ⟨by kernel_rfl, fun w hw => by (go_simp <;> with_reducible rfl)⟩) hCC ?_
 simp only [List.setIfInBounds_toArray, List.set_cons_zero, List.set_cons_succ]
 refine takeH16 (i := 1) (x := .pointer (some ⟨g, 3, none⟩)) rfl rfl (by kernel_rfl) (by kernel_rfl) (by kernel_rfl) (fun _ _ _ h => h) (Or.inl ⟨by kernel_rfl, fun w hw => by (go_simp <;> with_reducible rfl)⟩) hCC ?_
 simp only [List.setIfInBounds_toArray, List.set_cons_zero, List.set_cons_succ]
 refine takeH16 (i := 2) (x := .slice o3 32 c3) rfl rfl (by kernel_rfl) (by kernel_rfl) (by kernel_rfl) (fun _ _ _ h => h) (Or.inl ⟨by kernel_rfl, fun w hw => by have hc := HC3.out w hw; (go_simp <;> with_reducible rfl)⟩) hCC ?_
 simp only [List.setIfInBounds_toArray, List.set_cons_zero, List.set_cons_succ]
 refine takeH16 (i := 4) (x := .slice oB n cB) rfl rfl (by kernel_rfl) (by kernel_rfl) (by kernel_rfl) (fun _ _ _ h => h) (Or.inl ⟨by kernel_rfl, fun w hw => by (go_simp <;> with_reducible rfl)⟩) hCC ?_
 simp only [List.setIfInBounds_toArray, List.set_cons_zero, List.set_cons_succ]
 refine takeH16 (i := 5) (x := .int .i64 (n : Int)) rfl rfl (by kernel_rfl) (by kernel_rfl) (by kernel_rfl) (fun _ _ _ h => h) (Or.inl ⟨by kernel_rfl, fun w hw => by (go_simp <;> with_reducible rfl)⟩) hCC ?_
 simp only [List.setIfInBounds_toArray, List.set_cons_zero, List.set_cons_succ]
 obtain ⟨V0, hV0⟩ : ∃ V0, ({ W1 with drawn := W1.drawn + 1 } : World) = V0 := ⟨_, rfl⟩
 rw [hV0] at hCC
 first | rw [hV0] | rw [show World.drew W1 = V0 from hV0]
 clear hV0
 refine readyH2_16 (i := 3) (j := 6) (by kernel_rfl) rfl rfl (by kernel_rfl) (by kernel_rfl) (fun K hK => ?o1) (fun K hK => ?o2)
 case' o1 =>
  go_simp
  refine (HMK.out _ hCC).mono ?_
  rintro e V1 ⟨gm, rfl, hAm, hb1⟩
  have hC1 := HCi.out _ (Ks (HCm.out _ hCC) hb1)
  refine hK _ _ hC1 ?_
  clear hK K
  refine takeH16 (i := 7) (x := .pointer (some ⟨gm, 0, none⟩)) rfl rfl (by kernel_rfl) (by kernel_rfl) (by kernel_rfl) (fun _ _ _ h => h) (Or.inl ⟨by kernel_rfl, fun w hw => by (go_simp <;> with_reducible rfl)⟩) hC1 ?_
  simp only [List.setIfInBounds_toArray, List.set_cons_zero, List.set_cons_succ]
  obtain ⟨gs, hgs⟩ : ∃ gs, V1.heap.size = gs := ⟨_, rfl⟩
  obtain ⟨V2, hV2⟩ : ∃ V2, V1.alloc (.cells (Array.replicate n (.slice none 0 0)) 22) = V2 := ⟨_, rfl⟩
  have hmr := HMR.out V1
  rw [hV2, hgs] at hmr
  refine readyH16 (i := 6) (by kernel_rfl) rfl (by kernel_rfl) (fun K hK => ?_)
  go_simp
  have hb2 : Below V1.heap.size V1 V2 := by rw [<- hV2]; exact new12 _ _
  have hC2 := HCi.out _ (Ks (HCm.out _ hC1) hb2)
  refine hK _ _ hC2 ?_
  clear hK K hmr
  have HAM : Hid (Arr V2 gm 175 (bytesV (Da.fil (Da.key16 K9 N 3)))) := Lh (hAm.later hb2 hAm.lt)
  have HAS : Hid (Arr V2 gs 22 (List.replicate n (.slice none 0 0))) := Lh (by rw [<- hV2, <- hgs]; have := Arr.made V1 22 (List.replicate n (.slice none 0 0)); simpa using this)
  have HGS : Hid (W1.heap.size <= gs) := Lh (by rw [<- hgs]; exact (HCm.out _ hC1).size)
  clear hAm hb1 hb2 hC1 hgs hV2 hCC
 case' o2 =>
  obtain ⟨gs, hgs⟩ : ∃ gs, V0.heap.size = gs := ⟨_, rfl⟩
  obtain ⟨V1, hV1⟩ : ∃ V1, V0.alloc (.cells (Array.replicate n (.slice none 0 0)) 22) = V1 := ⟨_, rfl⟩
  have hmr := HMR.out V0
  rw [hV1, hgs] at hmr
  go_simp
  have hb1 : Below V0.heap.size V0 V1 := by rw [<- hV1]; exact new12 _ _
  have hC1 := HCi.out _ (Ks (HCm.out _ hCC) hb1)
  refine hK _ _ hC1 ?_
  clear hK K hmr
  refine readyH16 (i := 3) (by kernel_rfl) rfl (by kernel_rfl) (fun K hK => ?_)
  go_simp
  refine (HMK.out _ hC1).mono ?_
  rintro e V2 ⟨gm, rfl, hAm, hb2⟩
  have hC2 := HCi.out _ (Ks (HCm.out _ hC1) hb2)
  refine hK _ _ hC2 ?_
  clear hK K
  refine takeH16 (i := 7) (x := .pointer (some ⟨gm, 0, none⟩)) rfl rfl (by kernel_rfl) (by kernel_rfl) (by kernel_rfl) (fun _ _ _ h => h) (Or.inl ⟨by kernel_rfl, fun w hw => by (go_simp <;> with_reducible rfl)⟩) hC2 ?_
  simp only [List.setIfInBounds_toArray, List.set_cons_zero, List.set_cons_succ]
  have HAM := Lh hAm
  have HAS : Hid (Arr V2 gs 22 (List.replicate n (.slice none 0 0))) := Lh (by
   have h1 : Arr V1 gs 22 (List.replicate n (.slice none 0 0)) := by rw [<- hV1, <- hgs]; have := Arr.made V0 22 (List.replicate n (.slice none 0 0)); simpa using this
   exact h1.later hb2 h1.lt)
  have HGS : Hid (W1.heap.size <= gs) := Lh (by rw [<- hgs]; exact (HCm.out _ hCC).size)
  clear hAm hb1 hb2 hC1 hgs hV1 hCC
 all_goals
  refine takeH16 (i := 8) (x := .slice (some ⟨gs, 0, none⟩) n n) rfl rfl (by kernel_rfl) (by kernel_rfl) (by kernel_rfl) (fun _ _ _ h => h) (Or.inl ⟨by kernel_rfl, fun w hw => by (go_simp <;> with_reducible rfl)⟩) hC2 ?_
  simp only [List.setIfInBounds_toArray, List.set_cons_zero, List.set_cons_succ]
  refine wpAnyH_done (by kernel_rfl) ?_ _
  have hal := HAL.out V2 hC2
  have hc5 := HC5.out V2 hC2
  have HAL2 := Lh hal
  have HB2 := Lh (HCm.out _ hC2)
  clear hC2 hal
  go_upto_region 2 with fail
  apply wp_region_lit
  iterate 2 (refine wpList_plain rfl (fun K hK => ?_); go_simp; refine hK _ _ ?_; clear hK K)
  (refine wpList_plain rfl (fun K hK => ?_); go_simp)
  refine HAL2.out.mono ?_
  rintro e V3 ⟨bo, rfl, hAo, hb3⟩
  refine hK _ _ ?_
  clear hK K HAL2 hc5
  have hAS3 := HAS.out.later hb3 HAS.out.lt
  have HX0 : Hid (Ld16 K9 N F p gs n gm bo W W1 (.int .i64 0) V3) := Lh ⟨0, _, Nat.zero_le _, rfl, hAS3, by unfold Da.st16; rw [Da.stp16_zero, HNE.out]; exact els_nils16 V3 n, fun ad l c hm => by (rw [List.mem_replicate] at hm; cases hm.2), HAM.out.later hb3 HAM.out.lt, hAo, Ks HB2.out hb3⟩
  clear hAo hb3 hAS3 HAM HAS HB2
  iterate 2 (refine wpList_plain rfl (fun K hK => ?_); go_simp; refine hK _ _ ?_; clear hK K)
  obtain ⟨bb, offb, pp, qq, rfl, _, _, _⟩ := HBB.out.cell 0 (by rw [Da.blk16_length]; exact HN0.out)
  have HBC : Hid (∀ k, k < n -> ∃ p1 q1, (∀ v, Below W1.heap.size W1 v -> v.cell? ⟨bb, offb + k, none⟩ = some (.slice p1 8 q1)) /\ RowIs W1 p1 (bytesV (Da.raw16 K9 N F k)) q1) := Lh fun k hk => by
   obtain ⟨b', off', p1, q1, e, hlt, hc, hr⟩ := (HBB.out.later HB1.out).cell k (by rw [Da.blk16_length]; exact hk)
   cases e
   rw [Da.blk16_at _ _ _ _ _ hk] at hc hr
   rw [Da.raw16_length _ _ _ _ (by have := HN4.out; omega)] at hc
   exact ⟨p1, q1, fun v hv => (hv.cell (p := ⟨bb, offb + k, none⟩) hlt).trans hc, hr⟩
  go_wp2_with fail
  go_loopw [20] (fun iv wr => Ld16 K9 N F p gs n gm bo W W1 iv wr) (fun iv _ => n - (intOf iv).toNat)
  case atStart => exact HX0.out
  case round =>
   obtain ⟨k, ys, hk, rfl, hA, hEl, hfr, hAm, hAo, hB⟩ := hrel
   have HAM3 := Lh hAm
   have HAO := Lh hAo
   have HA := Lh hA
   have HEL := Lh hEl
   have HFR := Lh hfr
   have HBW := Lh hB
   clear hA hEl hfr hB hAm hAo HX0
   by_cases hkn : k < n
   ·have dk : decide ((k : Int) < (n : Int)) = true := decide_eq_true (by omega)
    have dk2 : decide (k < n) = true := decide_eq_true hkn
    obtain ⟨p1, q1, hbk, hr1⟩ := HBC.out k hkn
    obtain ⟨t, ht⟩ : ∃ t, Da.to16 K9 N p k = t := ⟨_, rfl⟩
    have htn : t < n := by rw [<- ht, <- HNE.out]; exact Da.to16_lt (by rw [HNE.out]; omega) (by rw [HNE.out]; exact hkn)
    have hci : wr.cell? ⟨bo, k, none⟩ = some (.int .i64 (t : Int)) := by
     rw [HAO.out.cell, Da.ilst_at _ _ _ hkn, <- ht]
     unfold Da.to16
     rw [HNE.out]
    have hcb := hbk wr HBW.out
    have htg := tagged16_new (Da.key16 K9 N 3) (Da.raw16 K9 N F k) gm (t : Int) p1 q1 wr HAM3.out (hr1.later HBW.out) (HV.out.later (Ks HB1.out HBW.out)) (by rw [Da.raw16_length _ _ _ _ (by have := HN4.out; omega)]; omega)
    rw [Da.raw16_length _ _ _ _ (by have := HN4.out; omega)] at htg
    have hbk0 : 0 <= (k : Int) /\ (k : Int) < (n : Int) := by omega
    have HTG := Lh htg
    have HT := Lh ht
    have HTN := Lh htn
    clear hbk hr1 ht htg
    go_upto_region 5 with fail
    apply wp_region_lit
    iterate 8 (refine wpList_plain rfl (fun K hK => ?_); go_simp; refine hK _ _ ?_; clear hK K)
    (refine wpList_plain rfl (fun K hK => ?_); go_simp)
    refine HTG.out.mono ?_
    rintro e Y1 ⟨gr, cr, rfl, hgr, hrv, hb⟩
    refine hK _ _ ?_
    clear hK K HTG hci hcb
    have hA3 := HA.out.later hb HA.out.lt
    have hE3 := HEL.out.later hb
    have hyl : ys.length = n := by rw [hE3.len]; unfold Da.st16; rw [Da.stp16_length]; exact HNE.out
    have hgw : Y1.grownBy (Y1.setCell ⟨gs, t, none⟩ (.slice (some ⟨gr, 0, none⟩) (8 + 8) cr)) (some gs) := grown_cell16 Y1 gs t _
    have hE4 := (hE3.putArr hA3 hE3.slices hgw).set t (hrv.putArr hA3 hE3.slices hgw)
    have hst : (Da.st16 K9 N F p k).set t (Da.tg16 (Da.key16 K9 N 3) (t : Int) (Da.raw16 K9 N F k)) = Da.st16 K9 N F p (k + 1) := by
     have := Da.st16_succ K9 N F p (by rw [HNE.out]; have := HN4.out; omega) k (by rw [HNE.out]; exact hkn)
     rw [HT.out] at this
     exact this
    rw [hst] at hE4
    have hWr : W.heap.size <= wr.heap.size := by have := HB1.out.size; have := HBW.out.size; omega
    have hAm1 := HAM3.out.later hb HAM3.out.lt
    have hAo1 := HAO.out.later hb HAO.out.lt
    have HFIN : Hid (Ld16 K9 N F p gs n gm bo W W1 (.int .i64 ((k : Int) + 1)) (Y1.setCell ⟨gs, t, none⟩ (.slice (some ⟨gr, 0, none⟩) (8 + 8) cr))) := Lh ⟨k + 1, ys.set t (.slice (some ⟨gr, 0, none⟩) (8 + 8) cr), by omega, by go_num, hA3.set t _, hE4, fun ad l c hm => by
     rcases List.mem_or_eq_of_mem_set hm with h | h
     ·exact HFR.out ad l c h
     ·cases h
      show W.heap.size <= gr
      omega, hAm1.ne hA3 (arr_apart hAm1 hA3 (by decide)) t _, hAo1.ne hA3 (arr_apart hAo1 hA3 (by decide)) t _, hA3.below (Ks HBW.out hb) HGS.out t _⟩
    have hfz := hA3.frozen t
    obtain ⟨old, hold⟩ : ∃ old, ys[t]? = some old := ⟨ys[t]'(by have := HTN.out; omega), List.getElem?_eq_getElem (by have := HTN.out; omega)⟩
    have hcell : Y1.cell? ⟨gs, t, none⟩ = some old := by rw [hA3.cell]; exact hold
    have hbq : 0 <= (t : Int) /\ (t : Int) < (n : Int) := by have := HTN.out; omega
    have hk90 := HN4.out
    clear hA3 hE3 hyl hgw hE4 hst hold hrv hb hgr hWr hAm1 hAo1
    go_wp2_with fail
    exact ⟨HFIN.out, by simp [intOf]; omega⟩
   ·obtain rfl : k = n := by omega
    have dk : decide ((k : Int) < (k : Int)) = false := decide_eq_false (by omega)
    have dk2 : decide (k < k) = false := decide_eq_false (by omega)
    have HFE : Hid (Els wr (Da.all16 K9 N F p) ys) := Lh (by unfold Da.all16; rw [HNE.out]; exact HEL.out)
    go_wp2_with fail
    go_ret
    exact ⟨gs, ys, rfl, by have := HGS.out; have := HB1.out.size; omega, HA.out, HFE.out, HFR.out, Ks HB1.out HBW.out⟩
theorem rb_arr16 {W : World} {gs n : Nat} {ys : List Value} {bs : List (List UInt8)} (hA : Arr W gs 22 ys) (hE : Els W bs ys) (hn : bs.length = n) (h4 : n <= 400) : RbIs W (some ⟨gs, 0, none⟩) bs n :=
 ⟨ys, ⟨by rw [hE.len, hn]; exact Nat.le_refl _, by unfold maxLen; omega, (fun e => by cases e), (fun _ => ⟨gs, 0, rfl, hA.lt, fun i v hv => by rw [Nat.zero_add, hA.cell]; exact hv⟩)⟩, hE⟩
theorem cell_row16 {W : World} {e g : Nat} {v : Value} (h : W.cell? ⟨e, 0, none⟩ = some v) (hne : e ≠ g) (C : Array Value) : (W.setRow g C).cell? ⟨e, 0, none⟩ = some v := by
 unfold World.cell? at h ⊢
 rw [setRow_other W g e C hne]
 exact h
theorem seal16c_of (ZL : Array Value) (hZL : lyZ16.toArray = ZL) (hzl : ∀ w, Sem.run Tryz.prog (zeroValue 79) w = .ok (.agg ZL) w) (ZS : Array Value) (hZS : (sldL (.slice none 0 0) Da.zd16 Da.zd16).toArray = ZS) (hzs : ∀ w, Sem.run Tryz.prog (zeroValue 34) w = .ok (.agg ZS) w)
    (hbs : ∀ w, (Instr.build 34 #[]).run Tryz.prog w = .ok (.agg ZS) w) (A : Nat -> Addr) (W : World) (oK : Option Addr) (cK : Nat) (K9 : List UInt8) (N : Int) (oF : Option Addr) (cF : Nat) (F : List UInt8) (p : Pm15) (hK9 : RowIs W oK (bytesV K9) cK) (hF : RowIs W oF (bytesV F) cF) (hKl : K9.length <= 100) (hfl : F.length <= 400) (hN : in64 N) (hok : p.ok) (hV : Cds W) (hE : E16 W A) :
    Calls Tryz.prog 10 #[.slice oK K9.length cK, .int .i64 N, .slice oF F.length cF, .agg (pmA p)] W fun e w' => ∃ x v, e = .returned (.tuple #[.agg (sldL x (if Da.sbad16 K9 N F p = 0 then Da.mth (Da.all16 K9 N F p) else Da.zd16) (if Da.sbad16 K9 N F p = 0 then Da.sha F else Da.zd16)).toArray, v]) /\ RbV (if Da.sbad16 K9 N F p = 0 then Da.all16 K9 N F p else []) x w' /\ SeV A p (Da.sbad16 K9 N F p) w' v /\ Below W.heap.size W w' := by
 obtain ⟨SB, hSB⟩ : ∃ SB, Da.sbad16 K9 N F p = SB := ⟨_, rfl⟩
 rw [hSB]
 obtain ⟨RS, hRS⟩ : ∃ RS, (if SB = 0 then Da.all16 K9 N F p else []) = RS := ⟨_, rfl⟩
 obtain ⟨R, hRR⟩ : ∃ R, (if SB = 0 then Da.mth (Da.all16 K9 N F p) else Da.zd16) = R := ⟨_, rfl⟩
 obtain ⟨FD, hFD⟩ : ∃ FD, (if SB = 0 then Da.sha F else Da.zd16) = FD := ⟨_, rfl⟩
 rw [hRS, hRR, hFD]
 have HERR : Hid (SB ≠ 0 -> R = Da.zd16 /\ FD = Da.zd16 /\ RS = []) := Lh fun h => ⟨by rw [<- hRR, if_neg h], by rw [<- hFD, if_neg h], by rw [<- hRS, if_neg h]⟩
 have HOKK : Hid (SB = 0 -> R = Da.mth (Da.all16 K9 N F p) /\ FD = Da.sha F /\ RS = Da.all16 K9 N F p) := Lh fun h => ⟨by rw [<- hRR, if_pos h], by rw [<- hFD, if_pos h], by rw [<- hRS, if_pos h]⟩
 obtain ⟨g, hg⟩ : ∃ g, W.heap.size = g := ⟨_, rfl⟩
 obtain ⟨PA, hPA⟩ : ∃ PA, pmA p = PA := ⟨_, rfl⟩
 obtain ⟨W2, hW2⟩ : ∃ W2, (W.alloc (.cells PA 24)).alloc (.cells ZS 34) = W2 := ⟨_, rfl⟩
 have hb2 : Below W.heap.size W W2 := by rw [<- hW2]; exact Ks (new12 _ _) (new12 _ _)
 have hA2 : Arr W2 g 24 (pmL p) := by
  have h1 : Arr (W.alloc (.cells PA 24)) g 24 (pmL p) := by rw [<- hPA, <- hg]; exact World.alloc_heap_new W _
  rw [<- hW2]
  exact h1.alloc _
 have hL2 : W2.heap[g + 1]? = some (.cells ZS 34 (0, 0)) := by rw [<- hW2, <- hg]; exact heap_new2 _ _ _ _
 have hck := check15_any A W2 p hok (hE.later hb2).e15
 have HPP : Hid (∀ w', Below W2.heap.size W2 w' -> w'.heap[g]? = some (.cells PA 24 (0, 0))) := Lh fun w' hb => by
  have := hA2.later hb hA2.lt
  unfold Arr at this
  rw [show (pmL p).toArray = PA from hPA] at this
  exact this
 have HPS : Hid ((Tryz.prog.info? 24).map (·.size) = some PA.size) := Lh (by rw [<- hPA]; exact pm15c_info)
 have HSE : Hid (∀ w', Below W2.heap.size W2 w' -> w'.cell? ⟨g, 0, none⟩ = some (.int .i64 p.sz)) := Lh fun w' hb => by rw [(hA2.later hb hA2.lt).cell]; rfl
 have HSZ : Hid (∀ w', Below W2.heap.size W2 w' -> w'.heap[g + 1]? = some (.cells ZS 34 (0, 0))) := Lh fun w' hb => (hb.block (g + 1) (aE.1 hL2).1).trans hL2
 have HGL2 : Hid (g + 1 < W2.heap.size) := Lh (aE.1 hL2).1
 have HSS : Hid ((Tryz.prog.info? 34).map (·.size) = some ZS.size) := Lh (by rw [sld_info, <- hZS]; rfl)
 have HSO : Hid (ZS.all (·.oneCell') = true) := Lh (by rw [<- hZS]; exact sld_one _ rfl _ _)
 have HS65 : Hid (ZS.size = 65) := Lh (by rw [<- hZS]; rfl)
 obtain ⟨lk, hlk⟩ : ∃ lk, K9.length = lk := ⟨_, rfl⟩
 obtain ⟨lf, hlf⟩ : ∃ lf, F.length = lf := ⟨_, rfl⟩
 rw [hPA] at hck ⊢
 have HLYF : Hid (∀ w', Below W2.heap.size W2 w' -> Calls Tryz.prog 34 #[.slice oK lk cK, .int .i64 N, .agg PA] w' fun e w2 => ∃ L v, e = .returned (.tuple #[.agg L.toArray, v]) /\ Ly16 A K9 N p L v w2 /\ Below w'.heap.size w' w2) := Lh fun w' hb => by
  rw [<- hlk, <- hPA]
  exact layout16_any A w' oK cK K9 N p (hK9.later (Ks hb2 hb)) hKl hN hok (hV.later (Ks hb2 hb)) (hE.later (Ks hb2 hb))
 rw [hlk, hlf]
 have HCK := Lh hck
 have HSB := Lh hSB
 have HG := Lh hg
 have HW2 := Lh hW2
 have HB2 := Lh hb2
 have HV := Lh hV
 have HE := Lh hE
 have HZL := Lh hZL
 have HZS := Lh hZS
 have HLF := Lh hlf
 have HFL4 : Hid (lf <= 400) := Lh (by rw [<- hlf]; exact hfl)
 have HFR := Lh hF
 have HOK := Lh hok
 have hnn := neq_nil
 clear hck hSB hRS hRR hFD hg hW2 hb2 hA2 hL2 hV hE hZL hZS hlf hfl hF hK9 hKl hN hok hlk hPA
 go_enter Tryz.func10, Tryz.ntmps10
 go_upto_region 1 with fail
 rw [HW2.out, HG.out]
 apply wp_region_lit
 refine wpList_load_row rfl 24 (.tmp 7) rfl g rfl 24 PA (0, 0) _ (HPP.out W2 (Below.refl _ _)) Tryz.underlying24 rfl HPS.out ?_
 (refine wpList_plain rfl (fun K hK => ?_); go_simp)
 refine HCK.out.mono ?_
 rintro e W3 ⟨v, rfl, hv, hb3⟩
 refine hK _ _ ?_
 clear hK K HCK
 have HB3 := Lh hb3
 clear hb3
 (refine wpList_plain rfl (fun K hK => ?_); go_simp; refine hK _ _ ?_; clear hK K)
 rcases hv with ⟨h0, rfl⟩ | ⟨h0, b, rfl, hw⟩
 rotate_left
 ·have hwr := wrv_setRow16 (v := wr15 b) (.inr ⟨h0, b, rfl, hw⟩) (HSZ.out W3 HB3.out) (by decide) ZS
  have hsb : SB = Da.err15 (Da.bad15 p) := by rw [<- HSB.out]; unfold Da.sbad16; rw [if_neg h0]
  have HSB0 : Hid (SB ≠ 0) := Lh (by rw [hsb]; exact fun h => h0 ((Da.err15_zero (Da.bad15_le p)).1 h))
  have HSV : Hid (SeV A p SB (W3.setRow (g + 1) ZS) (wr15 b)) := Lh (.inl ⟨h0, hwr⟩)
  have HBF : Hid (Below W.heap.size W (W3.setRow (g + 1) ZS)) := Lh ((Ks HB2.out HB3.out).trans (below_row (by have := HG.out; omega)))
  have HLW := Lh (HSZ.out W3 HB3.out)
  have hq := neq_wr15 b
  unfold wr15 at hq ⊢
  clear h0 hw hwr hsb
  go_upto_region 3 with fail
  apply wp_region_lit
  iterate 2 (refine wpList_plain rfl (fun K hK => ?_); go_simp; refine hK _ _ ?_; clear hK K)
  refine wpList_store_rowTo rfl 34 (.tmp 8) (.tmp 19) rfl rfl (g + 1) ZS rfl rfl 34 ZS HLW.out HSS.out rfl HSO.out ?_
  go_wp2_with fail
  refine bodyPost_ret (results_cell_row2 rfl _ _ (g + 1) 34 ZS (0, 0) _ rfl (setRow_heap _ _ _ _ _ _ HLW.out) Tryz.underlying34 rfl HSS.out) rfl ?_
  obtain ⟨q1, q2, q3⟩ := HERR.out HSB0.out
  exact ⟨.slice none 0 0, _, by rw [q1, q2, HZS.out]; rfl, by rw [q3]; exact ⟨none, 0, rfl, RbIs.empty none 0 (Nat.zero_le _) (fun _ => rfl)⟩, HSV.out, HBF.out⟩
 have H0 := Lh h0
 clear h0
 have hcs := HSE.out W3 HB3.out
 by_cases hsz : (lf : Int) = p.sz
 rotate_left
 ·have hq1 : ((lf : Int) != p.sz) = true := by rw [bne_iff_ne]; exact hsz
  have hq2 : ((lf : Int) == p.sz) = false := beq_false_of_ne hsz
  have hsb : SB = 8 := by rw [<- HSB.out]; unfold Da.sbad16; rw [if_pos H0.out, HLF.out, if_neg hsz]
  have HSB0 : Hid (SB ≠ 0) := Lh (by rw [hsb]; omega)
  have HSV : Hid (∀ w', SeV A p SB w' (.iface 256 (.pointer (some (A 7))))) := Lh fun w' => .inr ⟨H0.out, by rw [hsb]; rfl⟩
  have hBE := (HE.out.later HB2.out)
  have hc7 := (hBE.later HB3.out).c7
  have hne : (0 : Nat) ≠ g + 1 := by
   have h1 := cell_lt15 HE.out.c7
   have h2 := HG.out
   have h3 : (0 : Nat) < W.heap.size := h1
   omega
  obtain ⟨SS, hS⟩ : ∃ SS : World -> Prop, (fun v : World => v.cell? ⟨0, 0, none⟩ = some (.iface 256 (.pointer (some (A 7)))) /\ v.heap[g + 1]? = some (.cells ZS 34 (0, 0)) /\ Below W.heap.size W v) = SS := ⟨_, rfl⟩
  have HSm : Hid (∀ v, SS v -> v.cell? ⟨0, 0, none⟩ = some (.iface 256 (.pointer (some (A 7)))) /\ v.heap[g + 1]? = some (.cells ZS 34 (0, 0)) /\ Below W.heap.size W v) := Lh fun v hv => by rw [<- hS] at hv; exact hv
  have HSi : Hid (∀ v, v.cell? ⟨0, 0, none⟩ = some (.iface 256 (.pointer (some (A 7)))) /\ v.heap[g + 1]? = some (.cells ZS 34 (0, 0)) /\ Below W.heap.size W v -> SS v) := Lh fun v hv => by rw [<- hS]; exact hv
  have hCC : SS { W3 with drawn := W3.drawn + 1 } := HSi.out _ ⟨hc7, HSZ.out W3 HB3.out, Ks (Ks HB2.out HB3.out) (Kit.dn' W3 1)⟩
  have HNE := Lh hne
  clear hS hsb hBE hc7 hsz hne
  go_upto_region 5 with fail
  refine wp_region_held (S := SS) (by kernel_rfl) ?_
  refine takeH16 (i := 0) (x := .agg ZS) rfl rfl (by kernel_rfl) (by kernel_rfl) (by kernel_rfl) (fun _ _ _ h => h) (Or.inl ⟨by kernel_rfl, fun w hw => by (go_simp <;> with_reducible rfl)⟩) hCC ?_
  simp only [List.setIfInBounds_toArray, List.set_cons_zero, List.set_cons_succ]
  refine takeH16 (i := 1) (x := .iface 256 (.pointer (some (A 7)))) rfl rfl (by kernel_rfl) (by kernel_rfl) (by kernel_rfl) (fun _ _ _ h => h) (Or.inl ⟨by kernel_rfl, fun w hw => by have hc := (HSm.out w hw).1; (go_simp <;> with_reducible rfl)⟩) hCC ?_
  simp only [List.setIfInBounds_toArray, List.set_cons_zero, List.set_cons_succ]
  refine readyH16 (i := 2) (by kernel_rfl) rfl (by kernel_rfl) (fun K hK => ?_)
  obtain ⟨V0, hV0⟩ : ∃ V0, ({ W3 with drawn := W3.drawn + 1 } : World) = V0 := ⟨_, rfl⟩
  rw [hV0] at hCC
  first | rw [hV0] | rw [show World.drew W3 = V0 from hV0]
  obtain ⟨s1, s2, s3⟩ := HSm.out _ hCC
  have hC2 : SS (V0.setRow (g + 1) ZS) := HSi.out _ ⟨cell_row16 s1 HNE.out ZS, setRow_heap _ _ _ _ _ _ s2, s3.trans (below_row (by have := HG.out; omega))⟩
  refine wp_store_row 34 (.tmp 8) (.tmp 26) rfl (g + 1) ZS rfl rfl 34 ZS s2 HSS.out rfl HSO.out (hK _ _ hC2 ?_)
  clear hK K s1 s2 s3 hCC hV0
  refine takeH16 (i := 3) (x := .iface 256 (.pointer (some (A 7)))) rfl rfl (by kernel_rfl) (by kernel_rfl) (by kernel_rfl) (fun _ _ _ h => h) (Or.inl ⟨by kernel_rfl, fun w hw => by (go_simp <;> with_reducible rfl)⟩) hC2 ?_
  try simp only [List.setIfInBounds_toArray, List.set_cons_zero, List.set_cons_succ]
  refine wpAnyH_done (by kernel_rfl) ?_ _
  have HC2 := Lh (HSm.out _ hC2)
  clear hC2
  go_wp2_with fail
  refine bodyPost_ret (results_cell_row2 rfl _ _ (g + 1) 34 ZS (0, 0) _ rfl HC2.out.2.1 Tryz.underlying34 rfl HSS.out) rfl ?_
  obtain ⟨q1, q2, q3⟩ := HERR.out HSB0.out
  exact ⟨.slice none 0 0, _, by rw [q1, q2, HZS.out]; rfl, by rw [q3]; exact ⟨none, 0, rfl, RbIs.empty none 0 (Nat.zero_le _) (fun _ => rfl)⟩, HSV.out _, HC2.out.2.2⟩
 have hq1 : ((lf : Int) != p.sz) = false := by rw [bne_eq_false_iff_eq]; exact hsz
 have HSZE := Lh hsz
 have HLY := Lh (HLYF.out W3 HB3.out)
 have HBX := Lh HB3.out
 have hsb : SB = Da.abad (Da.isMas K9.length) (Da.inR N) := by rw [<- HSB.out]; unfold Da.sbad16; rw [if_pos H0.out, HLF.out, if_pos hsz]
 have HSA := Lh hsb
 clear hsz hsb HLYF
 go_upto_region 6 with fail
 apply wp_region_lit
 iterate 2 (refine wpList_plain rfl (fun K hK => ?_); go_simp; refine hK _ _ ?_; clear hK K)
 refine wpList_load_row rfl 24 (.tmp 7) rfl g rfl 24 PA (0, 0) _ (HPP.out W3 HB3.out) Tryz.underlying24 rfl HPS.out ?_
 (refine wpList_plain rfl (fun K hK => ?_); go_simp)
 refine HLY.out.mono ?_
 rintro e V2 ⟨L, v, rfl, hly, hb2⟩
 refine hK _ _ ?_
 clear hK K HLY
 obtain ⟨gl, hgl⟩ : ∃ gl, V2.heap.size = gl := ⟨_, rfl⟩
 obtain ⟨FL, hFL⟩ : ∃ FL, L.toArray = FL := ⟨_, rfl⟩
 obtain ⟨V3, hV3⟩ : ∃ V3, V2.alloc (.cells ZL 79) = V3 := ⟨_, rfl⟩
 have hz3 : V3.heap[gl]? = some (.cells ZL 79 (0, 0)) := by rw [<- hV3, <- hgl]; exact World.alloc_heap_new V2 _
 obtain ⟨V4, hV4⟩ : ∃ V4, V3.setRow gl FL = V4 := ⟨_, rfl⟩
 have hA4 : Arr V4 gl 79 L := by rw [<- hV4]; unfold Arr; rw [hFL]; exact setRow_heap _ _ _ _ _ _ hz3
 have hb4 : Below V2.heap.size V2 V4 := by rw [<- hV4, <- hV3]; exact (new12 _ _).trans (below_row (Nat.le_of_eq hgl))
 have HLS : Hid ((Tryz.prog.info? 79).map (·.size) = some FL.size) := Lh (by rw [ly_info, <- hFL, hly.1])
 have HLQ : Hid (ZL.size = FL.size) := Lh (by rw [<- hFL, hly.1, <- HZL.out]; rfl)
 have HLO : Hid (FL.all (·.oneCell') = true) := Lh (by rw [<- hFL]; exact hly.2.1)
 have hcs := (hly.later hb4).2.2
 have HA4 := Lh hA4
 have HZ3 := Lh hz3
 have HV3 := Lh hV3
 have HV4 := Lh hV4
 have HGL := Lh hgl
 have HFL := Lh hFL
 have HB4 := Lh (Ks (Ks HBX.out hb2) hb4)
 have HCS := Lh hcs
 rw [hFL]
 clear hly hb2 hgl hFL hV3 hz3 hV4 hA4 hb4 hcs
 iterate 4 (refine wpList_plain rfl (fun K hK => ?_); go_simp; refine hK _ _ ?_; clear hK K)
 rw [HV3.out, HGL.out]
 refine wpList_store_rowTo rfl 79 (.tmp 11) (.tmp 33) rfl rfl gl FL rfl rfl 79 ZL HZ3.out HLS.out HLQ.out HLO.out ?_
 rw [HV4.out]
 clear HV3 HV4 HZ3
 (refine wpList_plain rfl (fun K hK => ?_); go_simp; refine hK _ _ ?_; clear hK K)
 rcases HCS.out with ⟨hr, rfl, xs, go, q, hLe, h5, hx, hO⟩ | ⟨hr, hsv, hn1, hn2⟩
 rotate_left
 ·have hab : Da.abad (Da.isMas K9.length) (Da.inR N) ≠ 0 := by
   unfold Da.rdy16 at hr
   rw [if_pos H0.out] at hr
   exact hr
  have HSB0 : Hid (SB ≠ 0) := Lh (by rw [HSA.out]; exact hab)
  have HSV : Hid (SeV A p SB (V4.setRow (g + 1) ZS) v) := Lh (by
   rcases hsv with ⟨h1, _⟩ | ⟨h1, h2⟩
   ·exact absurd H0.out h1
   ·exact .inr ⟨h1, by rw [h2, HSA.out]⟩)
  have HBF : Hid (Below W.heap.size W (V4.setRow (g + 1) ZS)) := Lh ((Ks HB2.out HB4.out).trans (below_row (by have := HG.out; omega)))
  have HLW := Lh (HSZ.out V4 HB4.out)
  clear hr hsv HCS hab
  go_upto_region 8 with fail
  apply wp_region_lit
  iterate 2 (refine wpList_plain rfl (fun K hK => ?_); go_simp; refine hK _ _ ?_; clear hK K)
  refine wpList_store_rowTo rfl 34 (.tmp 8) (.tmp 37) rfl rfl (g + 1) ZS rfl rfl 34 ZS HLW.out HSS.out rfl HSO.out ?_
  go_wp2_with fail
  refine bodyPost_ret (results_cell_row2 rfl _ _ (g + 1) 34 ZS (0, 0) _ rfl (setRow_heap _ _ _ _ _ _ HLW.out) Tryz.underlying34 rfl HSS.out) rfl ?_
  obtain ⟨q1, q2, q3⟩ := HERR.out HSB0.out
  exact ⟨.slice none 0 0, _, by rw [q1, q2, HZS.out]; rfl, by rw [q3]; exact ⟨none, 0, rfl, RbIs.empty none 0 (Nat.zero_le _) (fun _ => rfl)⟩, HSV.out, HBF.out⟩
 have h0 := Da.rdy16_both hr
 have HSB0 : Hid (SB = 0) := Lh (by rw [HSA.out]; exact h0.2)
 have hR := Da.right15 H0.out
 have hly4 : Ly16At K9 N p L V4 := ⟨xs, go, q, hLe, h5, hx, hO⟩
 have hn90 := Da.n16_le hR (by have := HSZE.out; have := HFL4.out; omega)
 obtain ⟨n, hne⟩ : ∃ n, Da.n16 p = n := ⟨_, rfl⟩
 have hbl := blocks16_any A V4 K9 N p L oF cF F hR (by rw [HLF.out]; exact HSZE.out) (by rw [HLF.out]; exact HFL4.out) hly4 (HFR.out.later (Ks HB2.out HB4.out)) (HV.out.later (Ks HB2.out HB4.out)) (HE.out.later (Ks HB2.out HB4.out))
 rw [hne] at hn90
 rw [HFL.out, HLF.out, hne] at hbl
 have HFH : Hid (∀ w', Below V4.heap.size V4 w' -> w'.heap[gl]? = some (.cells FL 79 (0, 0))) := Lh fun w' hb => by
  have := HA4.out.later hb HA4.out.lt
  unfold Arr at this
  rw [HFL.out] at this
  exact this
 have HBL := Lh hbl
 have HLY4 := Lh hly4
 have HNE := Lh hne
 have HN90 := Lh hn90
 clear hr hLe h5 hx hO h0 hR hly4 hn90 hne hbl HCS hcs
 go_upto_region 9 with fail
 apply wp_region_lit
 refine wpList_load_row rfl 79 (.tmp 11) rfl gl rfl 79 FL (0, 0) _ (HFH.out V4 (Below.refl _ _)) Tryz.underlying79 rfl HLS.out ?_
 (refine wpList_plain rfl (fun K hK => ?_); go_simp; refine hK _ _ ?_; clear hK K)
 (refine wpList_plain rfl (fun K hK => ?_); go_simp)
 refine HBL.out.mono ?_
 rintro e V5 ⟨y, rfl, hy, hb5⟩
 refine hK _ _ ?_
 clear hK K HBL
 obtain ⟨oy, cy, rfl, hry⟩ := hy
 rw [Da.blk16_length]
 have hld := laid16_any V5 K9 N F p L n HNE.out (by have := HN90.out; omega) (by have := HN90.out; omega) (HLY4.out.later hb5) oy cy hry (HV.out.later (Ks (Ks HB2.out HB4.out) hb5))
 rw [HFL.out] at hld
 have HLD := Lh hld
 have HL5 := Lh hb5
 have HB5 := Lh (Ks HB4.out hb5)
 clear hry hb5 hld
 iterate 5 (refine wpList_plain rfl (fun K hK => ?_); go_simp; refine hK _ _ ?_; clear hK K)
 go_upto_region 12 with fail
 apply wp_region_lit
 refine wpList_load_row rfl 79 (.tmp 11) rfl gl rfl 79 FL (0, 0) _ (HFH.out V5 HL5.out) Tryz.underlying79 rfl HLS.out ?_
 (refine wpList_plain rfl (fun K hK => ?_); go_simp; refine hK _ _ ?_; clear hK K)
 (refine wpList_plain rfl (fun K hK => ?_); go_simp)
 refine HLD.out.mono ?_
 rintro e V6 ⟨gs, ys, rfl, hgs, hAs, hEs, hfr, hb6⟩
 refine hK _ _ ?_
 clear hK K HLD
 have HB6 := Lh (Ks HB5.out hb6)
 have hal : (Da.all16 K9 N F p).length = n := by rw [Da.all16_length, HNE.out]
 obtain ⟨AL, hAL⟩ : ∃ AL, Da.all16 K9 N F p = AL := ⟨_, rfl⟩
 rw [hAL] at hEs hal
 have hrt := troot_any AL (some ⟨gs, 0, none⟩) n n hal V6 (rb_arr16 hAs hEs hal (by have := HN90.out; omega)) (HV.out.later (Ks HB2.out HB6.out)) (by have := HN90.out; omega) (fun i hi => by
  have := Da.all16_sixteen K9 N F p (by rw [HNE.out]; have := HN90.out; omega) i (by rw [HNE.out, <- hal]; exact hi)
  rw [hAL] at this
  omega)
 obtain ⟨RA, hRA⟩ : ∃ RA, (bytesV (Da.mth AL)).toArray = RA := ⟨_, rfl⟩
 rw [hRA] at hrt
 have HRT := Lh hrt
 have HRA := Lh hRA
 have HAS := Lh hAs
 have HES := Lh hEs
 have HFRS := Lh hfr
 have HGS : Hid (g + 1 < gs /\ g + 1 < V5.heap.size) := Lh ⟨by have := HGL2.out; have := HB5.out.size; omega, by have := HGL2.out; have := HB5.out.size; omega⟩
 have HALE := Lh hAL
 have HALN := Lh hal
 clear hgs hAs hEs hfr hb6 hal hAL hrt hRA
 (refine wpList_plain rfl (fun K hK => ?_); go_simp; refine hK _ _ ?_; clear hK K)
 go_upto_region 13 with fail
 apply wp_region_lit
 iterate 2 (refine wpList_plain rfl (fun K hK => ?_); go_simp; refine hK _ _ ?_; clear hK K)
 (refine wpList_plain rfl (fun K hK => ?_); go_simp)
 refine HRT.out.mono ?_
 rintro e V7 ⟨rfl, hb7⟩
 refine hK _ _ ?_
 clear hK K HRT
 obtain ⟨gf, hgf⟩ : ∃ gf, V7.heap.size = gf := ⟨_, rfl⟩
 obtain ⟨V8, hV8⟩ : ∃ V8, V7.alloc (.cells #[.slice oF lf cF] 22) = V8 := ⟨_, rfl⟩
 have hb8 : Below V7.heap.size V7 V8 := by rw [<- hV8]; exact new12 _ _
 have hb78 := Ks hb7 hb8
 have hrb : RbIs V8 (some ⟨gf, 0, none⟩) [F] 1 := by
  have := one_part (HFR.out.later (Ks (Ks HB2.out HB6.out) hb7))
  rw [HLF.out, hV8, hgf] at this
  exact this
 have hso := sof_any [F] (some ⟨gf, 0, none⟩) 1 V8 hrb (HV.out.later (Ks (Ks HB2.out HB6.out) hb78)) (by have h4 := HFL4.out; have hl := HLF.out; simp [hl]; omega) (by simp)
 rw [show [F].flatten = F by simp, show ([F] : List (List UInt8)).length = 1 from rfl] at hso
 obtain ⟨FA, hFA⟩ : ∃ FA, (bytesV (Da.sha F)).toArray = FA := ⟨_, rfl⟩
 rw [hFA] at hso
 have HSO2 := Lh hso
 have HFA := Lh hFA
 have HB8 := Lh (Ks HB6.out hb78)
 have HAS8 := Lh (HAS.out.later hb78 HAS.out.lt)
 have HES8 := Lh (HES.out.later hb78)
 have HV8 := Lh hV8
 have HGF := Lh hgf
 clear hb7 hgf hV8 hb8 hb78 hrb hso hFA HAS HES
 (refine wpList_plain rfl (fun K hK => ?_); go_simp; refine hK _ _ ?_; clear hK K)
 (refine wpList_plain rfl (fun K hK => ?_); go_simp; rw [HV8.out, HGF.out]; refine hK _ _ ?_; clear hK K)
 (refine wpList_plain rfl (fun K hK => ?_); go_simp)
 refine HSO2.out.mono ?_
 rintro e V9 ⟨rfl, hb9⟩
 refine hK _ _ ?_
 clear hK K HSO2
 have HLW := Lh (HSZ.out V9 (Ks HB8.out hb9))
 have hAs9 := HAS8.out.later hb9 HAS8.out.lt
 have hEs9 := HES8.out.later hb9
 obtain ⟨SA, hSA⟩ : ∃ SA, (sldL (.slice (some ⟨gs, 0, none⟩) n n) (Da.mth AL) (Da.sha F)).toArray = SA := ⟨_, rfl⟩
 have hml := Da.mth_length AL
 have hsl := Da.sha_length F
 have HBT : Hid (Tryz.prog.built 34 [(0, .slice (some ⟨gs, 0, none⟩) n n), (1, .agg RA), (2, .agg FA)] = some SA) := Lh (by rw [<- HRA.out, <- HFA.out, <- hSA]; exact sld_built _ _ _ _ _ hml hsl)
 have HAS1 : Hid ((Tryz.prog.info? 34).map (·.size) = some SA.size) := Lh (by rw [sld_info, <- hSA]; simp [sld_length, hml, hsl])
 have HAS2 : Hid (ZS.size = SA.size) := Lh (by rw [HS65.out, <- hSA]; simp [sld_length, hml, hsl])
 have HAS3 : Hid (SA.all (·.oneCell') = true) := Lh (by rw [<- hSA]; exact sld_one _ rfl _ _)
 have HBF : Hid (Below W.heap.size W (V9.setRow (g + 1) SA)) := Lh ((Ks HB2.out (Ks HB8.out hb9)).trans (below_row (by have := HG.out; omega)))
 have HRB : Hid (RbIs (V9.setRow (g + 1) SA) (some ⟨gs, 0, none⟩) AL n) := Lh (rb_arr16 (arr_setRow hAs9 (by have := HGS.out; omega) SA) (els_kept16 hEs9 (grown_row16 V9 (g + 1) SA) (fun ad l c hm h => by
  have h1 := HFRS.out ad l c hm
  have h2 := HGS.out
  injection h with h
  omega)) HALN.out (by have := HN90.out; omega))
 have HSAE := Lh hSA
 clear hAs9 hEs9 hSA hml hsl hb9
 refine wpList_built rfl 34 _ rfl [(0, .slice (some ⟨gs, 0, none⟩) n n), (1, .agg RA), (2, .agg FA)] (by simp [Act.eval]) _ HBT.out ?_
 refine wpList_store_rowTo rfl 34 (.tmp 8) (.tmp 58) rfl rfl (g + 1) SA rfl rfl 34 ZS HLW.out HAS1.out HAS2.out HAS3.out ?_
 go_wp2_with fail
 refine bodyPost_ret (results_cell_row2 rfl _ _ (g + 1) 34 SA (0, 0) _ rfl (setRow_heap _ _ _ _ _ _ HLW.out) Tryz.underlying34 rfl HAS1.out) rfl ?_
 obtain ⟨q1, q2, q3⟩ := HOKK.out HSB0.out
 rw [HALE.out] at q1 q3
 exact ⟨.slice (some ⟨gs, 0, none⟩) n n, .nilIface, by rw [q1, q2, HSAE.out]; rfl, by rw [q3]; exact ⟨_, n, by rw [HALN.out], HRB.out⟩, .inr ⟨H0.out, by rw [HSB0.out]; rfl⟩, HBF.out⟩
theorem seal16c_any (A : Nat -> Addr) (W : World) (oK : Option Addr) (cK : Nat) (K9 : List UInt8) (N : Int) (oF : Option Addr) (cF : Nat) (F : List UInt8) (p : Pm15) (hK9 : RowIs W oK (bytesV K9) cK) (hF : RowIs W oF (bytesV F) cF) (hKl : K9.length <= 100) (hfl : F.length <= 400) (hN : in64 N) (hok : p.ok) (hV : Cds W) (hE : E16 W A) :
    Calls Tryz.prog 10 #[.slice oK K9.length cK, .int .i64 N, .slice oF F.length cF, .agg (pmA p)] W fun e w' => ∃ x v, e = .returned (.tuple #[.agg (sldL x (if Da.sbad16 K9 N F p = 0 then Da.mth (Da.all16 K9 N F p) else Da.zd16) (if Da.sbad16 K9 N F p = 0 then Da.sha F else Da.zd16)).toArray, v]) /\ RbV (if Da.sbad16 K9 N F p = 0 then Da.all16 K9 N F p else []) x w' /\ SeV A p (Da.sbad16 K9 N F p) w' v /\ Below W.heap.size W w' := seal16c_of _ rfl ly_zero _ rfl sld_zero sld_build0 A W oK cK K9 N oF cF F p hK9 hF hKl hfl hN hok hV hE
theorem slm16 (A : Nat -> Addr) : SlM A where
 mksl := fun W oK cK K9 N oF cF F p hK hF hk hf hN hp hV hE => seal16c_any A W oK cK K9 N oF cF F p hK hF hk hf hN hp hV hE
end Go.Proofs.YtffheegeaghfjaaGreatDoor
