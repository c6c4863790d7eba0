/- A hash: New, Put, Count, end, Sum, Of: the code's. -/
import Derived.Test.YtalilmnpobgffaaDoorHb
import Derived.Test.YtalilmnpobgffaaDoorQt
import Derived.Laws.CopyOwn
import Derived.Deep.Cut
import Derived.Deep.CutBlock
import Derived.Maps.AppendAt
namespace Go.Proofs.YtalilmnpobgffaaDoor
open Go.RowKit
set_option linter.unusedVariables false
set_option linter.unusedSimpArgs false
/-- a hash's cells -/
def hcs (st : List UInt32) (rs : List UInt8) (n : Nat) : List Value := u32V st ++ (bytesV rs ++ [.int .i64 (n : Int)])
theorem hcs_length {st : List UInt32} {rs : List UInt8} (n : Nat) (h : st.length = 8) (k : rs.length = 64) : (hcs st rs n).length = 73 := by simp [hcs, h, k]
theorem hcs_count {st : List UInt32} {rs : List UInt8} (n : Nat) (h : st.length = 8) (k : rs.length = 64) : (hcs st rs n)[72]? = some (.int .i64 (n : Int)) := by
  unfold hcs
  rw [List.getElem?_append_right (by simp [h]), List.getElem?_append_right (by simp [h, k])]
  simp [h, k]
theorem hcs_state {st : List UInt32} {rs : List UInt8} (n : Nat) (h : st.length = 8) : ∀ j v, (u32V st)[j]? = some v → (hcs st rs n)[0 + j]? = some v := fun j v hv => by
  have hj : j < (u32V st).length := (List.getElem?_eq_some_iff.1 hv).1
  unfold hcs
  rw [Nat.zero_add, List.getElem?_append_left hj]; exact hv
theorem hcs_rest {st : List UInt32} {rs : List UInt8} (n : Nat) (h : st.length = 8) : ∀ j v, (bytesV rs)[j]? = some v → (hcs st rs n)[8 + j]? = some v := fun j v hv => by
  have hj : j < (bytesV rs).length := (List.getElem?_eq_some_iff.1 hv).1
  unfold hcs
  rw [List.getElem?_append_right (by simp [h]), show 8 + j - (u32V st).length = j by simp [h], List.getElem?_append_left hj]; exact hv
theorem hcs_set {st : List UInt32} {rs : List UInt8} (n m : Nat) (h : st.length = 8) (k : rs.length = 64) : (hcs st rs n).set 72 (.int .i64 (m : Int)) = hcs st rs m := by
  unfold hcs
  rw [List.set_append_right _ _ (by simp [h]), List.set_append_right _ _ (by simp [h, k])]
  simp [h, k]
theorem hcs_laid {st st' : List UInt32} {rs : List UInt8} (n : Nat) (h : st.length = 8) (h' : st'.length = 8) : laid (hcs st rs n) 0 (u32V st') = hcs st' rs n := by
  unfold laid hcs
  simp only [List.take_zero, List.nil_append, Nat.zero_add]
  rw [List.drop_left' (by simp [h, h'])]
theorem hcs_over {st : List UInt32} {rs : List UInt8} (n m : Nat) (r : List UInt8) (h : st.length = 8) (k : rs.length = 64) (hm : m + r.length ≤ 64) :
    (hcs st rs n).take (8 + m) ++ (bytesV r ++ (hcs st rs n).drop (8 + m + (bytesV r).length)) = hcs st (Da.over rs m r) n := by
  unfold hcs Da.over
  rw [List.take_append, List.drop_append]
  rw [List.take_of_length_le (by simp [h]), List.drop_eq_nil_of_le (by simp [h]; omega)]
  simp only [u32V_length, h, bytesV_length, List.nil_append]
  rw [show 8 + m - 8 = m by omega, show 8 + m + r.length - 8 = m + r.length by omega]
  rw [List.take_append_of_le_length (by simp [k]; omega), List.drop_append_of_le_length (by simp [k]; omega)]
  simp [bytesV, List.map_take, List.map_drop]
/-- block b is a hash of which the bytes p were put -/
structure HashAt (W : World) (b : Nat) (p : List UInt8) (st : List UInt32) (rs : List UInt8) : Prop where
  arr : Arr W b 55 (hcs st rs p.length)
  slen : st.length = 8
  rlen : rs.length = 64
  ok : p ≠ [] → Da.Hok p st rs
def Hash (W : World) (b : Nat) (p : List UInt8) : Prop := ∃ st rs, HashAt W b p st rs
theorem Arr.kept {W W' : World} {b : Nat} {T : TypeId} {xs : List Value} {row : Option Nat} (h : Arr W b T xs) (hg : W.grownBy W' row) (hne : some b ≠ row) : Arr W' b T xs := by
  unfold Arr
  rw [hg.block b h.lt hne]; exact h
theorem Hash.kept {W W' : World} {b : Nat} {p : List UInt8} {row : Option Nat} (h : Hash W b p) (hg : W.grownBy W' row) (hne : some b ≠ row) : Hash W' b p := by
  obtain ⟨st, rs, h⟩ := h
  exact ⟨st, rs, h.arr.kept hg hne, h.slen, h.rlen, h.ok⟩
theorem grown_below {W W' : World} {B : Nat} {row : Option Nat} (hb : Below W.heap.size W W') : W.grownBy W' row := ⟨hb.os, hb.tape, hb.output, hb.size, fun k hk _ => hb.block k hk⟩
theorem below_grown {B b : Nat} {W0 W W' : World} (hb : Below B W0 W) (hg : W.grownBy W' (some b)) (hB : B ≤ b) (hs : B ≤ W.heap.size) : Below B W0 W' :=
  ⟨hg.os.trans hb.os, hg.tape.trans hb.tape, hg.output.trans hb.output, Nat.le_trans hb.size hg.size, fun k hk => (hg.block k (by omega) (fun e => by cases e; omega)).trans (hb.block k hk)⟩
theorem RowIs.kept {W W' : World} {o : Option Addr} {vs : List Value} {c : Nat} {row : Option Nat} (h : RowIs W o vs c) (hg : W.grownBy W' row) (hne : 0 < vs.length → ∀ ad, o = some ad → some ad.block ≠ row) : RowIs W' o vs c :=
  ⟨h.le, h.cap, h.nil, fun h0 => by
    obtain ⟨b, off, e, hlt, hc⟩ := h.cells h0
    exact ⟨b, off, e, Nat.lt_of_lt_of_le hlt hg.size, fun i v hv => by
      rw [World.cell?_of_block (hg.block b hlt (hne h0 _ e))]; exact hc i v hv⟩⟩
theorem Var.kept {W W' : World} {n : Nat} {xs : List UInt32} {row : Option Nat} (h : Var W n xs) (hg : W.grownBy W' row) (hne : some n ≠ row) : Var W' n xs :=
  ⟨Nat.lt_of_lt_of_le h.lt hg.size, fun j v hv => by rw [World.cell?_of_block (hg.block n h.lt hne)]; exact h.at_ j v hv⟩
theorem grown_set {W : World} {b : Nat} {T : TypeId} {xs : List Value} (h : Arr W b T xs) (i : Nat) (v : Value) : W.grownBy (W.setCell ⟨b, i, none⟩ v) (some b) := by
  rw [setCell_eq_setRow W b i _ _ _ v h]
  exact ⟨rfl, rfl, rfl, by simp [World.setRow], fun k hk hn => setRow_other _ _ _ _ (fun e => hn (by rw [e]))⟩
theorem grown_row {W : World} {b : Nat} (cs : Array Value) : W.grownBy (W.setRow b cs) (some b) :=
  ⟨rfl, rfl, rfl, by simp [World.setRow], fun k hk hn => setRow_other _ _ _ _ (fun e => hn (by rw [e]))⟩
theorem grown_sets {b : Nat} {T : TypeId} : ∀ (vs : List Value) (o : Nat) {W : World} {xs : List Value}, Arr W b T xs → W.grownBy (W.setCells b o vs) (some b)
  | [], o, W, xs, h => ⟨rfl, rfl, rfl, Nat.le_refl _, fun _ _ _ => rfl⟩
  | v :: vs, o, W, xs, h => by
    rw [World.setCells]
    exact (grown_set h o v).trans (grown_sets vs (o + 1) (h.set o v))
theorem hash_info : (Tryd.prog.info? 55).map (·.size) = some 73 := by kernel_rfl
theorem hcount_any (b : Nat) (p : List UInt8) (w : World) (h : Hash w b p) : Calls Tryd.prog 13 #[.pointer (some ⟨b, 0, none⟩)] w fun e w' => e = .returned (.int .i64 (p.length : Int)) ∧ w' = w := by
  obtain ⟨st, rs, h⟩ := h
  have hc : w.cell? ⟨b, 72, none⟩ = some (.int .i64 (p.length : Int)) := by rw [h.arr.cell]; exact hcs_count _ h.slen h.rlen
  clear h
  go_enter Tryd.func13, Tryd.ntmps13
  go_wp2_with fail
  go_ret
  exact ⟨rfl, rfl⟩
def slLen : Value → Nat
  | .slice _ n _ => n
  | _ => 0
/-- a hash, and what is yet to be put -/
def Pt1 (p r : List UInt8) (b : Nat) (w : World) (x : Value) (wr : World) : Prop :=
  ∃ (k : Nat) (o : Option Addr) (c : Nat) (st : List UInt32) (rs : List UInt8), k ≤ r.length ∧ x = .slice o (r.length - k) c ∧ RowIs wr o (bytesV (r.drop k)) c ∧ (0 < r.length - k → ∀ ad, o = some ad → ad.block ≠ b) ∧
    Arr wr b 55 (hcs st rs (p ++ r.take k).length) ∧ Da.Hok (p ++ r.take k) st rs ∧ w.grownBy wr (some b) ∧ Var wr 23 Da.cubes
theorem Pt1.next {p r : List UInt8} {b : Nat} {w W1 W : World} {k : Nat} {q rr : List UInt8} {b1 off1 c1 t : Nat} {st' : List UInt32} {rs' : List UInt8} (hk : k ≤ r.length) (hq : p ++ r.take k = q) (hrr : r.drop k = rr)
    (hr1 : RowIs W1 (some ⟨b1, off1, none⟩) (bytesV rr) c1) (hn1 : b1 ≠ b) (ht : t ≤ rr.length) (hG : W1.grownBy W (some b)) (hg1 : w.grownBy W1 (some b)) (hv : Var W1 23 Da.cubes) (hb : 23 ≠ b)
    (hA : Arr W b 55 (hcs st' rs' (q ++ rr.take t).length)) (hok : Da.Hok (q ++ rr.take t) st' rs') :
    Pt1 p r b w (.slice (if c1 = t then some { block := b1, off := off1 } else some { block := b1, off := off1 + t }) (rr.length - t) (c1 - t)) W := by
  have hrl : rr.length = r.length - k := by rw [← hrr, List.length_drop]
  have e1 : p ++ r.take (k + t) = q ++ rr.take t := by rw [← hq, ← hrr, List.take_add, List.append_assoc]
  have e2 : r.drop (k + t) = rr.drop t := by rw [← hrr, List.drop_drop]
  have hr2 := hr1.kept hG (fun _ ad e => by cases e; exact fun e => hn1 (by cases e; rfl))
  have hle := hr2.le
  have hcap := hr2.cap
  simp only [bytesV_length] at hle
  refine ⟨k + t, _, _, st', rs', by omega, by rw [show r.length - (k + t) = rr.length - t by omega], ?_, ?_, by rw [e1]; exact hA, by rw [e1]; exact hok, hg1.trans hG, hv.kept hG (fun e => hb (by cases e; rfl))⟩
  · rw [e2]
    refine ⟨by simp; omega, by omega, fun h => by (split at h <;> cases h), fun h0 => ?_⟩
    have h1 : t < rr.length := by simp at h0; omega
    rw [if_neg (by omega)]
    obtain ⟨b2, off2, e, hlt, hc⟩ := hr2.cells (by simp; omega)
    cases e
    refine ⟨b1, off1 + t, rfl, hlt, fun i v hv => ?_⟩
    have := hc (t + i) v (by
      rw [← hv]
      simp [bytesV, List.getElem?_drop])
    rw [show off1 + t + i = off1 + (t + i) by omega]
    exact this
  · intro _ ad e
    split at e <;> cases e <;> exact hn1
set_option maxRecDepth 100000 in
set_option maxHeartbeats 1000000 in
theorem put_any (b : Nat) (p r : List UInt8) (o : Option Addr) (c : Nat) (w : World) (h : Hash w b p) (hr : RowIs w o (bytesV r) c) (hne : 0 < r.length → ∀ ad, o = some ad → ad.block ≠ b) (hb : 23 ≠ b ∧ 2 ≠ b)
    (hV : Var w 23 Da.cubes) (hV2 : Var w 2 Da.begins) (hl : p.length + r.length ≤ 1000000) :
    Calls Tryd.prog 11 #[.pointer (some ⟨b, 0, none⟩), .slice o r.length c] w fun e w' => e = .returned (.pointer (some ⟨b, 0, none⟩)) ∧ Hash w' b (p ++ r) ∧ w.grownBy w' (some b) := by
  obtain ⟨st, rs, h⟩ := h
  have hc : w.cell? ⟨b, 72, none⟩ = some (.int .i64 (p.length : Int)) := by rw [h.arr.cell]; exact hcs_count _ h.slen h.rlen
  have H := Lib.hid h
  have HR := Lib.hid hr
  have HN := Lib.hid hne
  have HV := Lib.hid hV
  have HBN := Lib.hid hb
  obtain ⟨F, hF⟩ : ∃ F, (u32V Da.begins).toArray = F := ⟨_, rfl⟩
  have HFO : Hid (F.all (·.oneCell') = true) := Lib.hid (by rw [← hF]; exact all_oneCell_toArray (u32V_one _))
  have HFI : Hid ((Tryd.prog.info? 50).map (·.size) = some F.size) := Lib.hid (by rw [w8_info, ← hF]; rfl)
  have HFL : Hid (w.rangeAt 2 0 (u32V Da.begins)) := Lib.hid hV2.at_
  have HFE := Lib.hid hF
  have HTH : Hid (w.there b 0 F.size) := Lib.hid (h.arr.there 0 _ (by rw [hcs_length _ h.slen h.rlen, ← hF]; decide))
  clear h hr hne hV hb hF hV2
  go_enter Tryd.func11, Tryd.ntmps11
  have HFL' : Hid ((Tryd.prog.info? 50).map (·.size) = some (u32V Da.begins).length) := Lib.hid (by rw [w8_info]; rfl)
  go_upto_region 2 with fail
  · rename_i hp0
    have hp : p = [] := by simpa using hp0
    obtain ⟨W0, hW0⟩ : ∃ W0, w.setCells b 0 F.toList = W0 := ⟨_, rfl⟩
    have hg : w.grownBy W0 (some b) := by rw [← hW0]; exact grown_sets _ _ H.out.arr
    have hX : Pt1 p r b w (.slice o r.length c) W0 := by
      refine ⟨0, o, c, Da.begins, rs, Nat.zero_le _, rfl, by simpa using HR.out.kept hg (fun h0 ad e h => HN.out (by simpa using h0) ad e (by cases h; rfl)), HN.out, ?_, ?_, hg, HV.out.kept hg (fun e => HBN.out.1 (by cases e; rfl))⟩
      · rw [← hW0, ← HFE.out]
        have := Arr.sets (u32V Da.begins) 0 H.out.arr (by rw [hcs_length _ H.out.slen H.out.rlen]; decide)
        rw [hcs_laid _ H.out.slen rfl] at this
        simpa [hp] using this
      · simpa [hp] using Da.Hok.zero rs H.out.rlen
    have HW0 := Lib.hid hW0
    have HX := Lib.hid hX
    clear hp0 hW0 hg hX
    apply wp_region_lit
    (refine wpList_plain rfl (fun K hK => ?_); go_simp; refine hK _ _ ?_; clear hK K)
    refine wpList_load_mid rfl 50 (.global 2) rfl 2 0 rfl (u32V Da.begins) _ HFL.out w8_under rfl HFL'.out ?_
    rw [HFE.out]
    (refine wpList_plain rfl (fun K hK => ?_); go_simp; refine hK _ _ ?_; clear hK K)
    (refine wpList_plain rfl (fun K hK => ?_); go_simp; refine hK _ _ ?_; clear hK K)
    refine wpList_store_midTo rfl 50 (.tmp 14) (.tmp 12) rfl rfl b 0 F rfl rfl HTH.out HFI.out HFO.out ?_
    rw [HW0.out]
    clear HTH HFL HFI HFO hc HW0 H HR HV
    go_wp2_with fail
    go_loopw [1] (fun x wr => Pt1 p r b w x wr) (fun x _ => slLen x)
    case atStart => exact HX.out
    case round =>
      rename World => W1
      obtain ⟨k, o1, c1, st1, rs1, hk, rfl, hr1, hn1, ha1, hok1, hg1, hv1⟩ := hrel
      obtain ⟨q, hq⟩ : ∃ q, p ++ r.take k = q := ⟨_, rfl⟩
      obtain ⟨rr, hrr⟩ : ∃ rr, r.drop k = rr := ⟨_, rfl⟩
      have hrl : r.length - k = rr.length := by rw [← hrr, List.length_drop]
      have hql : q.length + rr.length = p.length + r.length := by rw [← hq, List.length_append, List.length_take, ← hrl]; omega
      rw [hq] at ha1 hok1
      rw [hrr] at hr1
      rw [hrl]
      by_cases hpos : 0 < rr.length
      · have hd1 : decide ((rr.length : Int) > 0) = true := by simpa using hpos
        obtain ⟨b1, off1, rfl, hlt1, hcell1⟩ := hr1.cells (by simpa using hpos)
        have hcnt : W1.cell? ⟨b, 72, none⟩ = some (.int .i64 (q.length : Int)) := by rw [ha1.cell]; exact hcs_count _ hok1.slen hok1.len
        obtain ⟨n, hn⟩ : ∃ n, q.length = n := ⟨_, rfl⟩
        rw [hn] at hcnt
        obtain ⟨m, hm⟩ : ∃ m, n % 64 = m := ⟨_, rfl⟩
        have hm0 : Int.tmod (n : Int) 64 = (m : Int) := by rw [← hm]; rfl
        have hml : m < 64 := by omega
        have hm1 : (m : Int) < 64 := by omega
        have hm2 : (m : Int) ≤ 64 := by omega
        have hm3 : ¬ m = 64 := by omega
        have hm4 : ¬ 64 = m := by omega
        have hm5 : m ≤ 64 := by omega
        have HM := Lib.hid hm
        have HQ := Lib.hid hq
        have HRR := Lib.hid hrr
        have HRL := Lib.hid hrl
        have HQL := Lib.hid hql
        have HNN := Lib.hid hn
        clear hm hq hrr hrl hql hn
        have HR1 := Lib.hid hr1
        have HA1 := Lib.hid ha1
        have HO1 := Lib.hid hok1
        have HG1 := Lib.hid hg1
        have HN1 := Lib.hid (hn1 (by rw [HRL.out]; exact hpos))
        have HV1 := Lib.hid hv1
        have HC1 := Lib.hid hcell1
        clear hr1 ha1 hok1 hg1 hn1 hv1 hcell1
        go_upto_region 4 with fail
        refine Qt.region_quiet_tail 10 (by kernel_rfl) (by kernel_rfl) ?_
        simp only [List.take_succ_cons, List.take_zero, List.drop_succ_cons, List.drop_zero]
        repeat (quiet_step (fail))
        refine wpQuiet_nil ?_
        intro _ hw'
        obtain ⟨nq, hw''⟩ := hw'
        subst hw''
        obtain ⟨t, ht⟩ : ∃ t, min rr.length (64 - m) = t := ⟨_, rfl⟩
        have htl : (rr.take t).length = t := by rw [List.length_take]; omega
        have hcl : (bytesV (rr.take t)).length = Nat.min rr.length (64 - m) := by rw [bytesV_length, htl, ← ht]
        obtain ⟨W2, hW2⟩ : ∃ W2, (W1.drewN nq).setRow b ((hcs st1 rs1 n).take (8 + m) ++ (bytesV (rr.take t) ++ (hcs st1 rs1 n).drop (8 + m + (bytesV (rr.take t)).length))).toArray = W2 := ⟨_, rfl⟩
        have ha1 := HA1.out
        rw [HNN.out] at ha1
        have hA2 : Arr W2 b 55 (hcs st1 (Da.over rs1 m (rr.take t)) n) := by
          rw [← hW2, hcs_over n m _ HO1.out.slen HO1.out.len (by rw [htl]; omega)]
          exact setRow_heap _ _ _ _ _ _ (ha1.drewN nq)
        have hG2 : W1.grownBy W2 (some b) := by
          rw [← hW2]
          exact (grown_below (B := 0) (Kit.dn' W1 nq)).trans (grown_row _)
        refine wpList_copy_own rfl (.tmp 26) (.tmp 27) 24 24 rfl 5 (by kernel_rfl) (by kernel_rfl) b (8 + m) (64 - m) (64 - m) ⟨b1, off1, none⟩ rr.length c1 rfl rfl (hcs st1 rs1 n).toArray 55 (ha1.drewN nq) (bytesV (rr.take t)) hcl (fun j v hv => ?_) ?_ (bytesV_one _) ?_
        · have hj : j < (bytesV (rr.take t)).length := (List.getElem?_eq_some_iff.1 hv).1
          have := HC1.out j v (by
            rw [bytesV_length, htl] at hj
            rw [← hv]
            simp [bytesV, List.getElem?_take, hj])
          rw [Addr.add_mid]
          exact this
        · simp only [List.size_toArray]
          rw [hcs_length _ HO1.out.slen HO1.out.len, bytesV_length, htl]; omega
        rw [show (hcs st1 rs1 n).toArray.toList = hcs st1 rs1 n from rfl, hW2, bytesV_length, htl]
        obtain ⟨rs2, hrs2⟩ : ∃ rs2, Da.over rs1 m (rr.take t) = rs2 := ⟨_, rfl⟩
        rw [hrs2] at hA2
        have hr2 : rs2.length = 64 := by rw [← hrs2, Da.over_length _ _ _ (by rw [HO1.out.len, htl]; omega)]; exact HO1.out.len
        have hc2 : W2.cell? ⟨b, 72, none⟩ = some (.int .i64 (n : Int)) := by rw [hA2.cell]; exact hcs_count _ HO1.out.slen hr2
        have hf2 := hA2.frozen 72
        obtain ⟨W3, hW3⟩ : ∃ W3, W2.setCell ⟨b, 72, none⟩ (.int .i64 ((n : Int) + (t : Int))) = W3 := ⟨_, rfl⟩
        have hA3 : Arr W3 b 55 (hcs st1 rs2 (n + t)) := by
          rw [← hW3, ← hcs_set n (n + t) HO1.out.slen hr2]
          exact hA2.set 72 _
        have hG3 : W1.grownBy W3 (some b) := by rw [← hW3]; exact hG2.trans (grown_set hA2 72 _)
        have htl1 : t ≤ rr.length := by omega
        have hc3 : W3.cell? ⟨b, 72, none⟩ = some (.int .i64 ((n : Int) + (t : Int))) := by rw [hA3.cell]; exact hcs_count (n + t) HO1.out.slen hr2
        have htn : n + t ≤ 1000000 := by have := HQL.out; have := HNN.out; omega
        have HA3 := Lib.hid hA3
        have HG3 := Lib.hid hG3
        have HW3 := Lib.hid hW3
        have HT := Lib.hid ht
        have HTL := Lib.hid htl
        have HRS := Lib.hid hrs2
        have HR2 := Lib.hid hr2
        clear hA2 hG2 hW2 ha1 hcl hA3 hG3 hW3 ht htl hrs2 hr2 hcnt
        by_cases e : m + t = 64
        · have hm6 : Int.tmod ((n : Int) + (t : Int)) 64 = 0 := by
            rw [show ((n : Int) + (t : Int)) = ((n + t : Nat) : Int) from rfl, show Int.tmod ((n + t : Nat) : Int) 64 = (((n + t) % 64 : Nat) : Int) from rfl, show (n + t) % 64 = 0 by have := HM.out; omega]; rfl
          go_upto_region 7 with fail
          rw [HW3.out]
          have hsl := HO1.out.slen
          have hrl2 := HR2.out
          obtain ⟨S, hS⟩ : ∃ S, (u32V (Da.comp st1 rs2)).toArray = S := ⟨_, rfl⟩
          have HSO : Hid (S.all (·.oneCell') = true) := Lib.hid (by rw [← hS]; exact all_oneCell_toArray (u32V_one _))
          have HSI : Hid ((Tryd.prog.info? 50).map (·.size) = some S.size) := Lib.hid (by rw [w8_info, ← hS]; simp [Da.comp_length])
          have hv3 : Var W3 23 Da.cubes := HV1.out.kept HG3.out (fun e => HBN.out.1 (by cases e; rfl))
          have BH : Hid (∀ v, Below W3.heap.size W3 v → Calls Tryd.prog 22 #[.agg (u32V st1).toArray, .agg (bytesV rs2).toArray] v fun e w' => e = .returned (.agg S) ∧ Below W3.heap.size W3 w') := Lib.hid fun v hv => by
            refine (behind_any st1 rs2 hsl hrl2 v (hv3.later hv)).mono ?_
            rintro e w' ⟨rfl, hb⟩
            exact ⟨by rw [hS], Kit.step hv hb⟩
          have L1 : Hid (∀ v, Below W3.heap.size W3 v → v.rangeAt b 0 (u32V st1)) := Lib.hid fun v hv => (HA3.out.later hv HA3.out.lt).range 0 _ (hcs_state _ hsl)
          have L2 : Hid (∀ v, Below W3.heap.size W3 v → v.rangeAt b 8 (bytesV rs2)) := Lib.hid fun v hv => (HA3.out.later hv HA3.out.lt).range 8 _ (hcs_rest _ hsl)
          have L3 : Hid ((Tryd.prog.info? 50).map (·.size) = some (u32V st1).length) := Lib.hid (by rw [w8_info]; simp [hsl])
          have L4 : Hid ((Tryd.prog.info? 53).map (·.size) = some (bytesV rs2).length) := Lib.hid (by rw [b64_info]; simp [hrl2])
          have HS := Lib.hid hS
          clear hS hv3
          obtain ⟨C, hC⟩ : ∃ C : World → Prop, (fun v => Below W3.heap.size W3 v) = C := ⟨_, rfl⟩
          refine Qt.region_class_tail (fun v => Below W3.heap.size W3 v) 12 (by kernel_rfl) (by kernel_rfl) (Kit.dn' W3 1) ?_
          simp only [List.take_succ_cons, List.take_zero, List.drop_succ_cons, List.drop_zero]
          rw [hC]
          have hCm : ∀ v, C v → Below W3.heap.size W3 v := fun v hv => by rw [← hC] at hv; exact hv
          have hCi : ∀ v, Below W3.heap.size W3 v → C v := fun v hv => by rw [← hC]; exact hv
          have HCm := Lib.hid hCm
          have HCi := Lib.hid hCi
          clear hC hCm hCi
          iterate 4 (refine wpQuiet_step (fun K hK => ?_); refine Qt.qk_pure (v := ?_) rfl (fun w => ?_) ?_; rotate_left; (· go_simp <;> with_reducible rfl); go_simp; refine hK _ ?_; clear hK K)
          refine Qt.q_load_mid rfl 50 (.tmp 46) rfl b 0 rfl (u32V st1) _ (fun v hv => L1.out v (HCm.out v hv)) w8_under rfl L3.out ?_
          iterate 3 (refine wpQuiet_step (fun K hK => ?_); refine Qt.qk_pure (v := ?_) rfl (fun w => ?_) ?_; rotate_left; (· go_simp <;> with_reducible rfl); go_simp; refine hK _ ?_; clear hK K)
          refine Qt.q_load_mid rfl 53 (.tmp 50) rfl b 8 rfl (bytesV rs2) _ (fun v hv => L2.out v (HCm.out v hv)) b64_under rfl L4.out ?_
          refine Qt.q_call rfl 22 _ _ rfl #[.agg (u32V st1).toArray, .agg (bytesV rs2).toArray] (by go_simp) (fun w => by simp [go_sem]) (.agg S) (fun v hv => (BH.out v (HCm.out v hv)).mono (fun e w' h => ⟨h.1, HCi.out _ h.2⟩)) ?_
          iterate 2 (refine wpQuiet_step (fun K hK => ?_); refine Qt.qk_pure (v := ?_) rfl (fun w => ?_) ?_; rotate_left; (· go_simp <;> with_reducible rfl); go_simp; refine hK _ ?_; clear hK K)
          refine wpQuiet_nil ?_
          intro W4 hB4
          have hA4 : Arr W4 b 55 (hcs st1 rs2 (n + t)) := HA3.out.later hB4 HA3.out.lt
          obtain ⟨W5, hW5⟩ : ∃ W5, W4.setCells b 0 S.toList = W5 := ⟨_, rfl⟩
          have hA5 : Arr W5 b 55 (hcs (Da.comp st1 rs2) rs2 (n + t)) := by
            rw [← hW5, ← HS.out]
            have := Arr.sets (u32V (Da.comp st1 rs2)) 0 hA4 (by rw [hcs_length _ hsl hrl2]; simp [Da.comp_length])
            rw [hcs_laid _ hsl (Da.comp_length _ _)] at this
            exact this
          have hG5 : W1.grownBy W5 (some b) := by
            rw [← hW5]
            exact (HG3.out.trans (grown_below (B := 0) hB4)).trans (grown_sets _ _ hA4)
          have HTH4 : Hid (W4.there b 0 S.size) := Lib.hid (hA4.there 0 _ (by rw [hcs_length _ hsl hrl2, ← HS.out]; simp [Da.comp_length]))
          have HA5 := Lib.hid hA5
          have HG5 := Lib.hid hG5
          have HW5 := Lib.hid hW5
          clear hA4 hA5 hG5 hW5 hB4
          refine wpList_store_midTo rfl 50 (.tmp 54) (.tmp 52) rfl rfl b 0 S rfl rfl HTH4.out HSI.out HSO.out ?_
          rw [HW5.out]
          clear HW5 HTH4 HSI HSO BH L1 L2 HCm HCi
          have hmt : 0 < t := by have := HT.out; omega
          have hok := HO1.out.fill (rr.take t) (by rw [HNN.out, HM.out, HTL.out]; omega)
          rw [HNN.out, HM.out, HRS.out] at hok
          have hP := Pt1.next hk HQ.out HRR.out HR1.out (HN1.out _ rfl) htl1 HG5.out HG1.out HV1.out HBN.out.1 (by rw [List.length_append, HTL.out, HNN.out]; exact HA5.out) hok
          clear hok
          by_cases hct : c1 = t
          · subst hct
            rw [if_pos rfl, Nat.sub_self] at hP
            have HP := Lib.hid hP
            clear hP
            go_wp2_with fail
            exact ⟨HP.out, by simp only [slLen]; omega⟩
          · rw [if_neg hct] at hP
            have HP := Lib.hid hP
            clear hP
            go_wp2_with fail
            exact ⟨HP.out, by simp only [slLen]; omega⟩
        · have hm6 : Int.tmod ((n : Int) + (t : Int)) 64 = ((m + t : Nat) : Int) := by
            rw [show ((n : Int) + (t : Int)) = ((n + t : Nat) : Int) from rfl, show Int.tmod ((n + t : Nat) : Int) 64 = (((n + t) % 64 : Nat) : Int) from rfl, show (n + t) % 64 = m + t by have := HM.out; have := HT.out; omega]
          have hmt : 0 < t := by have := HT.out; omega
          have hm7 : (((m + t : Nat) : Int) == 0) = false := by simp; omega
          have hok := HO1.out.more (rr.take t) (by rw [HNN.out, HM.out, HTL.out]; have := HT.out; omega)
          rw [HNN.out, HM.out, HRS.out] at hok
          have hP := Pt1.next hk HQ.out HRR.out HR1.out (HN1.out _ rfl) htl1 HG3.out HG1.out HV1.out HBN.out.1 (by rw [List.length_append, HTL.out, HNN.out]; exact HA3.out) hok
          clear hok
          by_cases hct : c1 = t
          · subst hct
            rw [if_pos rfl, Nat.sub_self] at hP
            have HP := Lib.hid hP
            clear hP
            go_wp2_with (first | rw [HW3.out])
            exact ⟨HP.out, by simp only [slLen]; omega⟩
          · rw [if_neg hct] at hP
            have HP := Lib.hid hP
            clear hP
            go_wp2_with (first | rw [HW3.out])
            exact ⟨HP.out, by simp only [slLen]; omega⟩
      · obtain rfl : rr = [] := List.eq_nil_of_length_eq_zero (by omega)
        have hkr : k = r.length := by simp at hrl; omega
        have hqe : q = p ++ r := by rw [← hq, hkr, List.take_length]
        have hH : Hash W1 b (p ++ r) := ⟨st1, rs1, by rw [← hqe]; exact ha1, hok1.slen, hok1.len, fun _ => by rw [← hqe]; exact hok1⟩
        have HH := Lib.hid hH
        have HG1 := Lib.hid hg1
        clear hr1 hn1 ha1 hok1 hg1 hv1 hq hrr hrl hql hqe hH hpos
        rw [show ([] : List UInt8).length = 0 from rfl]
        go_wp2_with fail
        go_ret
        exact ⟨rfl, HH.out, HG1.out⟩
  · rename_i hp0 K1 hK1
    have hp : p ≠ [] := by intro h; rw [h] at hp0; cases hp0
    have hX : Pt1 p r b w (.slice o r.length c) w := ⟨0, o, c, st, rs, Nat.zero_le _, rfl, by simpa using HR.out, HN.out, by simpa using H.out.arr, by simpa using H.out.ok hp, ⟨rfl, rfl, rfl, Nat.le_refl _, fun _ _ _ => rfl⟩, HV.out⟩
    have HX := Lib.hid hX
    clear hp0 hX hp HTH HFL HFI HFO hc H HR HV
    go_wp2_with fail
    go_loopw [1] (fun x wr => Pt1 p r b w x wr) (fun x _ => slLen x)
    case atStart => exact HX.out
    case round =>
      rename World => W1
      obtain ⟨k, o1, c1, st1, rs1, hk, rfl, hr1, hn1, ha1, hok1, hg1, hv1⟩ := hrel
      obtain ⟨q, hq⟩ : ∃ q, p ++ r.take k = q := ⟨_, rfl⟩
      obtain ⟨rr, hrr⟩ : ∃ rr, r.drop k = rr := ⟨_, rfl⟩
      have hrl : r.length - k = rr.length := by rw [← hrr, List.length_drop]
      have hql : q.length + rr.length = p.length + r.length := by rw [← hq, List.length_append, List.length_take, ← hrl]; omega
      rw [hq] at ha1 hok1
      rw [hrr] at hr1
      rw [hrl]
      by_cases hpos : 0 < rr.length
      · have hd1 : decide ((rr.length : Int) > 0) = true := by simpa using hpos
        obtain ⟨b1, off1, rfl, hlt1, hcell1⟩ := hr1.cells (by simpa using hpos)
        have hcnt : W1.cell? ⟨b, 72, none⟩ = some (.int .i64 (q.length : Int)) := by rw [ha1.cell]; exact hcs_count _ hok1.slen hok1.len
        obtain ⟨n, hn⟩ : ∃ n, q.length = n := ⟨_, rfl⟩
        rw [hn] at hcnt
        obtain ⟨m, hm⟩ : ∃ m, n % 64 = m := ⟨_, rfl⟩
        have hm0 : Int.tmod (n : Int) 64 = (m : Int) := by rw [← hm]; rfl
        have hml : m < 64 := by omega
        have hm1 : (m : Int) < 64 := by omega
        have hm2 : (m : Int) ≤ 64 := by omega
        have hm3 : ¬ m = 64 := by omega
        have hm4 : ¬ 64 = m := by omega
        have hm5 : m ≤ 64 := by omega
        have HM := Lib.hid hm
        have HQ := Lib.hid hq
        have HRR := Lib.hid hrr
        have HRL := Lib.hid hrl
        have HQL := Lib.hid hql
        have HNN := Lib.hid hn
        clear hm hq hrr hrl hql hn
        have HR1 := Lib.hid hr1
        have HA1 := Lib.hid ha1
        have HO1 := Lib.hid hok1
        have HG1 := Lib.hid hg1
        have HN1 := Lib.hid (hn1 (by rw [HRL.out]; exact hpos))
        have HV1 := Lib.hid hv1
        have HC1 := Lib.hid hcell1
        clear hr1 ha1 hok1 hg1 hn1 hv1 hcell1
        go_upto_region 4 with fail
        refine Qt.region_quiet_tail 10 (by kernel_rfl) (by kernel_rfl) ?_
        simp only [List.take_succ_cons, List.take_zero, List.drop_succ_cons, List.drop_zero]
        repeat (quiet_step (fail))
        refine wpQuiet_nil ?_
        intro _ hw'
        obtain ⟨nq, hw''⟩ := hw'
        subst hw''
        obtain ⟨t, ht⟩ : ∃ t, min rr.length (64 - m) = t := ⟨_, rfl⟩
        have htl : (rr.take t).length = t := by rw [List.length_take]; omega
        have hcl : (bytesV (rr.take t)).length = Nat.min rr.length (64 - m) := by rw [bytesV_length, htl, ← ht]
        obtain ⟨W2, hW2⟩ : ∃ W2, (W1.drewN nq).setRow b ((hcs st1 rs1 n).take (8 + m) ++ (bytesV (rr.take t) ++ (hcs st1 rs1 n).drop (8 + m + (bytesV (rr.take t)).length))).toArray = W2 := ⟨_, rfl⟩
        have ha1 := HA1.out
        rw [HNN.out] at ha1
        have hA2 : Arr W2 b 55 (hcs st1 (Da.over rs1 m (rr.take t)) n) := by
          rw [← hW2, hcs_over n m _ HO1.out.slen HO1.out.len (by rw [htl]; omega)]
          exact setRow_heap _ _ _ _ _ _ (ha1.drewN nq)
        have hG2 : W1.grownBy W2 (some b) := by
          rw [← hW2]
          exact (grown_below (B := 0) (Kit.dn' W1 nq)).trans (grown_row _)
        refine wpList_copy_own rfl (.tmp 26) (.tmp 27) 24 24 rfl 5 (by kernel_rfl) (by kernel_rfl) b (8 + m) (64 - m) (64 - m) ⟨b1, off1, none⟩ rr.length c1 rfl rfl (hcs st1 rs1 n).toArray 55 (ha1.drewN nq) (bytesV (rr.take t)) hcl (fun j v hv => ?_) ?_ (bytesV_one _) ?_
        · have hj : j < (bytesV (rr.take t)).length := (List.getElem?_eq_some_iff.1 hv).1
          have := HC1.out j v (by
            rw [bytesV_length, htl] at hj
            rw [← hv]
            simp [bytesV, List.getElem?_take, hj])
          rw [Addr.add_mid]
          exact this
        · simp only [List.size_toArray]
          rw [hcs_length _ HO1.out.slen HO1.out.len, bytesV_length, htl]; omega
        rw [show (hcs st1 rs1 n).toArray.toList = hcs st1 rs1 n from rfl, hW2, bytesV_length, htl]
        obtain ⟨rs2, hrs2⟩ : ∃ rs2, Da.over rs1 m (rr.take t) = rs2 := ⟨_, rfl⟩
        rw [hrs2] at hA2
        have hr2 : rs2.length = 64 := by rw [← hrs2, Da.over_length _ _ _ (by rw [HO1.out.len, htl]; omega)]; exact HO1.out.len
        have hc2 : W2.cell? ⟨b, 72, none⟩ = some (.int .i64 (n : Int)) := by rw [hA2.cell]; exact hcs_count _ HO1.out.slen hr2
        have hf2 := hA2.frozen 72
        obtain ⟨W3, hW3⟩ : ∃ W3, W2.setCell ⟨b, 72, none⟩ (.int .i64 ((n : Int) + (t : Int))) = W3 := ⟨_, rfl⟩
        have hA3 : Arr W3 b 55 (hcs st1 rs2 (n + t)) := by
          rw [← hW3, ← hcs_set n (n + t) HO1.out.slen hr2]
          exact hA2.set 72 _
        have hG3 : W1.grownBy W3 (some b) := by rw [← hW3]; exact hG2.trans (grown_set hA2 72 _)
        have htl1 : t ≤ rr.length := by omega
        have hc3 : W3.cell? ⟨b, 72, none⟩ = some (.int .i64 ((n : Int) + (t : Int))) := by rw [hA3.cell]; exact hcs_count (n + t) HO1.out.slen hr2
        have htn : n + t ≤ 1000000 := by have := HQL.out; have := HNN.out; omega
        have HA3 := Lib.hid hA3
        have HG3 := Lib.hid hG3
        have HW3 := Lib.hid hW3
        have HT := Lib.hid ht
        have HTL := Lib.hid htl
        have HRS := Lib.hid hrs2
        have HR2 := Lib.hid hr2
        clear hA2 hG2 hW2 ha1 hcl hA3 hG3 hW3 ht htl hrs2 hr2 hcnt
        by_cases e : m + t = 64
        · have hm6 : Int.tmod ((n : Int) + (t : Int)) 64 = 0 := by
            rw [show ((n : Int) + (t : Int)) = ((n + t : Nat) : Int) from rfl, show Int.tmod ((n + t : Nat) : Int) 64 = (((n + t) % 64 : Nat) : Int) from rfl, show (n + t) % 64 = 0 by have := HM.out; omega]; rfl
          go_upto_region 7 with fail
          rw [HW3.out]
          have hsl := HO1.out.slen
          have hrl2 := HR2.out
          obtain ⟨S, hS⟩ : ∃ S, (u32V (Da.comp st1 rs2)).toArray = S := ⟨_, rfl⟩
          have HSO : Hid (S.all (·.oneCell') = true) := Lib.hid (by rw [← hS]; exact all_oneCell_toArray (u32V_one _))
          have HSI : Hid ((Tryd.prog.info? 50).map (·.size) = some S.size) := Lib.hid (by rw [w8_info, ← hS]; simp [Da.comp_length])
          have hv3 : Var W3 23 Da.cubes := HV1.out.kept HG3.out (fun e => HBN.out.1 (by cases e; rfl))
          have BH : Hid (∀ v, Below W3.heap.size W3 v → Calls Tryd.prog 22 #[.agg (u32V st1).toArray, .agg (bytesV rs2).toArray] v fun e w' => e = .returned (.agg S) ∧ Below W3.heap.size W3 w') := Lib.hid fun v hv => by
            refine (behind_any st1 rs2 hsl hrl2 v (hv3.later hv)).mono ?_
            rintro e w' ⟨rfl, hb⟩
            exact ⟨by rw [hS], Kit.step hv hb⟩
          have L1 : Hid (∀ v, Below W3.heap.size W3 v → v.rangeAt b 0 (u32V st1)) := Lib.hid fun v hv => (HA3.out.later hv HA3.out.lt).range 0 _ (hcs_state _ hsl)
          have L2 : Hid (∀ v, Below W3.heap.size W3 v → v.rangeAt b 8 (bytesV rs2)) := Lib.hid fun v hv => (HA3.out.later hv HA3.out.lt).range 8 _ (hcs_rest _ hsl)
          have L3 : Hid ((Tryd.prog.info? 50).map (·.size) = some (u32V st1).length) := Lib.hid (by rw [w8_info]; simp [hsl])
          have L4 : Hid ((Tryd.prog.info? 53).map (·.size) = some (bytesV rs2).length) := Lib.hid (by rw [b64_info]; simp [hrl2])
          have HS := Lib.hid hS
          clear hS hv3
          obtain ⟨C, hC⟩ : ∃ C : World → Prop, (fun v => Below W3.heap.size W3 v) = C := ⟨_, rfl⟩
          refine Qt.region_class_tail (fun v => Below W3.heap.size W3 v) 12 (by kernel_rfl) (by kernel_rfl) (Kit.dn' W3 1) ?_
          simp only [List.take_succ_cons, List.take_zero, List.drop_succ_cons, List.drop_zero]
          rw [hC]
          have hCm : ∀ v, C v → Below W3.heap.size W3 v := fun v hv => by rw [← hC] at hv; exact hv
          have hCi : ∀ v, Below W3.heap.size W3 v → C v := fun v hv => by rw [← hC]; exact hv
          have HCm := Lib.hid hCm
          have HCi := Lib.hid hCi
          clear hC hCm hCi
          iterate 4 (refine wpQuiet_step (fun K hK => ?_); refine Qt.qk_pure (v := ?_) rfl (fun w => ?_) ?_; rotate_left; (· go_simp <;> with_reducible rfl); go_simp; refine hK _ ?_; clear hK K)
          refine Qt.q_load_mid rfl 50 (.tmp 46) rfl b 0 rfl (u32V st1) _ (fun v hv => L1.out v (HCm.out v hv)) w8_under rfl L3.out ?_
          iterate 3 (refine wpQuiet_step (fun K hK => ?_); refine Qt.qk_pure (v := ?_) rfl (fun w => ?_) ?_; rotate_left; (· go_simp <;> with_reducible rfl); go_simp; refine hK _ ?_; clear hK K)
          refine Qt.q_load_mid rfl 53 (.tmp 50) rfl b 8 rfl (bytesV rs2) _ (fun v hv => L2.out v (HCm.out v hv)) b64_under rfl L4.out ?_
          refine Qt.q_call rfl 22 _ _ rfl #[.agg (u32V st1).toArray, .agg (bytesV rs2).toArray] (by go_simp) (fun w => by simp [go_sem]) (.agg S) (fun v hv => (BH.out v (HCm.out v hv)).mono (fun e w' h => ⟨h.1, HCi.out _ h.2⟩)) ?_
          iterate 2 (refine wpQuiet_step (fun K hK => ?_); refine Qt.qk_pure (v := ?_) rfl (fun w => ?_) ?_; rotate_left; (· go_simp <;> with_reducible rfl); go_simp; refine hK _ ?_; clear hK K)
          refine wpQuiet_nil ?_
          intro W4 hB4
          have hA4 : Arr W4 b 55 (hcs st1 rs2 (n + t)) := HA3.out.later hB4 HA3.out.lt
          obtain ⟨W5, hW5⟩ : ∃ W5, W4.setCells b 0 S.toList = W5 := ⟨_, rfl⟩
          have hA5 : Arr W5 b 55 (hcs (Da.comp st1 rs2) rs2 (n + t)) := by
            rw [← hW5, ← HS.out]
            have := Arr.sets (u32V (Da.comp st1 rs2)) 0 hA4 (by rw [hcs_length _ hsl hrl2]; simp [Da.comp_length])
            rw [hcs_laid _ hsl (Da.comp_length _ _)] at this
            exact this
          have hG5 : W1.grownBy W5 (some b) := by
            rw [← hW5]
            exact (HG3.out.trans (grown_below (B := 0) hB4)).trans (grown_sets _ _ hA4)
          have HTH4 : Hid (W4.there b 0 S.size) := Lib.hid (hA4.there 0 _ (by rw [hcs_length _ hsl hrl2, ← HS.out]; simp [Da.comp_length]))
          have HA5 := Lib.hid hA5
          have HG5 := Lib.hid hG5
          have HW5 := Lib.hid hW5
          clear hA4 hA5 hG5 hW5 hB4
          refine wpList_store_midTo rfl 50 (.tmp 54) (.tmp 52) rfl rfl b 0 S rfl rfl HTH4.out HSI.out HSO.out ?_
          rw [HW5.out]
          clear HW5 HTH4 HSI HSO BH L1 L2 HCm HCi
          have hmt : 0 < t := by have := HT.out; omega
          have hok := HO1.out.fill (rr.take t) (by rw [HNN.out, HM.out, HTL.out]; omega)
          rw [HNN.out, HM.out, HRS.out] at hok
          have hP := Pt1.next hk HQ.out HRR.out HR1.out (HN1.out _ rfl) htl1 HG5.out HG1.out HV1.out HBN.out.1 (by rw [List.length_append, HTL.out, HNN.out]; exact HA5.out) hok
          clear hok
          by_cases hct : c1 = t
          · subst hct
            rw [if_pos rfl, Nat.sub_self] at hP
            have HP := Lib.hid hP
            clear hP
            go_wp2_with fail
            exact ⟨HP.out, by simp only [slLen]; omega⟩
          · rw [if_neg hct] at hP
            have HP := Lib.hid hP
            clear hP
            go_wp2_with fail
            exact ⟨HP.out, by simp only [slLen]; omega⟩
        · have hm6 : Int.tmod ((n : Int) + (t : Int)) 64 = ((m + t : Nat) : Int) := by
            rw [show ((n : Int) + (t : Int)) = ((n + t : Nat) : Int) from rfl, show Int.tmod ((n + t : Nat) : Int) 64 = (((n + t) % 64 : Nat) : Int) from rfl, show (n + t) % 64 = m + t by have := HM.out; have := HT.out; omega]
          have hmt : 0 < t := by have := HT.out; omega
          have hm7 : (((m + t : Nat) : Int) == 0) = false := by simp; omega
          have hok := HO1.out.more (rr.take t) (by rw [HNN.out, HM.out, HTL.out]; have := HT.out; omega)
          rw [HNN.out, HM.out, HRS.out] at hok
          have hP := Pt1.next hk HQ.out HRR.out HR1.out (HN1.out _ rfl) htl1 HG3.out HG1.out HV1.out HBN.out.1 (by rw [List.length_append, HTL.out, HNN.out]; exact HA3.out) hok
          clear hok
          by_cases hct : c1 = t
          · subst hct
            rw [if_pos rfl, Nat.sub_self] at hP
            have HP := Lib.hid hP
            clear hP
            go_wp2_with (first | rw [HW3.out])
            exact ⟨HP.out, by simp only [slLen]; omega⟩
          · rw [if_neg hct] at hP
            have HP := Lib.hid hP
            clear hP
            go_wp2_with (first | rw [HW3.out])
            exact ⟨HP.out, by simp only [slLen]; omega⟩
      · obtain rfl : rr = [] := List.eq_nil_of_length_eq_zero (by omega)
        have hkr : k = r.length := by simp at hrl; omega
        have hqe : q = p ++ r := by rw [← hq, hkr, List.take_length]
        have hH : Hash W1 b (p ++ r) := ⟨st1, rs1, by rw [← hqe]; exact ha1, hok1.slen, hok1.len, fun _ => by rw [← hqe]; exact hok1⟩
        have HH := Lib.hid hH
        have HG1 := Lib.hid hg1
        clear hr1 hn1 ha1 hok1 hg1 hv1 hq hrr hrl hql hqe hH hpos
        rw [show ([] : List UInt8).length = 0 from rfl]
        go_wp2_with fail
        go_ret
        exact ⟨rfl, HH.out, HG1.out⟩
end Go.Proofs.YtalilmnpobgffaaDoor
