/- The walk of CodeSums. -/
import Derived.Test.YtkkmgjjafbjnjaaDoorApt
import Derived.Test.YtkkmgjjafbjnjaaDoorCwd
namespace Go.Proofs.YtkkmgjjafbjnjaaDoor
open Go.RowKit
set_option linter.unusedVariables false
set_option linter.unusedSimpArgs false
theorem wp_append_byte {o : Oper} {a : Act} {w : World} {K : Act → World → Prop} {Q : Exit → Act → World → Prop} (s x : Operand)
    (ho : o.op = .call { callee := .builtin .append, args := #[s, x], argTypes := #[22, 22] })
    (base : Nat) (v : Value) (n : Nat) (z : List UInt8) (hs : a.eval s = v) (hown : w.ownsRow base 5 1 v n (bytesV z))
    (g : Nat) (y : UInt8) (hx : a.eval x = .slice (some ⟨g, 0, none⟩) 1 1) (hg : w.cell? ⟨g, 0, none⟩ = some (.int .u8 (y.toNat : Int))) (hl : n ≤ 10000000) (hbase : base ≤ w.heap.size)
    (h : ∀ v' w', w'.ownsRow base 5 1 v' (n + 1) (bytesV (z ++ [y])) → w.grownBy w' v.ownBlock → K (a.put o.dst v') w') : o.wp Tryd.prog a w K Q := by
  obtain ⟨i0, hi, hz0, hz1, hz2⟩ := info_parts info_u8
  have e : bytesV (z ++ [y]) = bytesV z ++ [.int .u8 (y.toNat : Int)] := by simp [bytesV]
  rw [e] at h
  refine wp_append_own_wide w s x 22 ho base 5 i0 (.int .u8 0) 1 1 Tryd.underlying22 hi hz0 hz1 hz2 rfl (by decide) v n (bytesV z) hs hown ⟨g, 0, none⟩ 1 1 [.int .u8 (y.toNat : Int)] hx (by simp) (fun j u hj => ?_) (fun u hu => ?_) (by unfold maxLen; omega) (by omega) hbase ?_
  · have h1 := (List.getElem?_eq_some_iff.1 hj).1
    simp at h1
    subst h1
    simp at hj
    subst hj
    exact hg
  · simp at hu
    subst hu
    rfl
  · intro v' w' h1 h2 _
    exact h v' w' h1 h2
theorem csm_ne (m n c c2 : Nat) (o o2 : Option Addr) (b : UInt8) (w : World) (h : m ≠ n) (hm : m ≤ 9223372036854775807) (hn : n ≤ 9223372036854775807) :
    Calls Tryd.prog 6 #[.slice o m c, .slice o2 n c2, .int .u8 (b.toNat : Int)] w fun e w' => e = .returned (.bool true) ∧ Below w.heap.size w w' := by
  have hb1 : ((m : Int) != (n : Int)) = true := by rw [bne_iff_ne]; omega
  have hb : ((m : Int) == (n : Int)) = false := beq_false_of_ne (by omega)
  have hd : decide ((m : Int) = (n : Int)) = false := decide_eq_false (by omega)
  go_enter Tryd.func6, Tryd.ntmps6
  go_wp2_with fail
  refine (alive3_any _).mono ?_; rintro e w1 ⟨rfl, hb⟩
  have HB1 := Lib.hid hb
  clear hb
  go_wp2_with fail
  go_ret
  exact ⟨rfl, HB1.out⟩
theorem csm_long (m c c2 : Nat) (o o2 : Option Addr) (b : UInt8) (w : World) (h : 223 < m) (hm : m ≤ 9223372036854775807) :
    Calls Tryd.prog 6 #[.slice o m c, .slice o2 m c2, .int .u8 (b.toNat : Int)] w fun e w' => e = .returned (.bool true) ∧ Below w.heap.size w w' := by
  have hd : decide ((223 : Int) < (m : Int)) = true := decide_eq_true (by omega)
  go_enter Tryd.func6, Tryd.ntmps6
  go_wp2_with fail
  refine (alive3_any _).mono ?_; rintro e w1 ⟨rfl, hb⟩
  have HB1 := Lib.hid hb
  clear hb
  go_wp2_with fail
  go_ret
  exact ⟨rfl, HB1.out⟩
theorem csm_none (c c2 : Nat) (o o2 : Option Addr) (b : UInt8) (w : World) (pe : Addr) (hE : w.cell? ⟨0, 0, none⟩ = some (.iface 92 (.pointer (some pe)))) :
    Calls Tryd.prog 6 #[.slice o 0 c, .slice o2 0 c2, .int .u8 (b.toNat : Int)] w fun e w' => e = .returned (.bool true) ∧ Below w.heap.size w w' := by
  have HE := Lib.hid hE
  clear hE
  go_enter Tryd.func6, Tryd.ntmps6
  go_wp2_with fail
  refine (alive3_any _).mono ?_; rintro e w1 ⟨rfl, hb⟩
  have HB1 := Lib.hid hb
  clear hb
  go_wp2_with fail
  refine (encode_size 0 c o w1 pe (glob_later HE.out HB1.out) (by omega) (by omega)).mono ?_; rintro e w2 ⟨rfl, hb⟩
  have HB2 := Lib.hid (Kit.step HB1.out hb)
  clear hb
  go_wp2_with fail
  refine (encode_size 0 c2 o2 w2 pe (glob_later HE.out HB2.out) (by omega) (by omega)).mono ?_; rintro e w3 ⟨rfl, hb⟩
  have HB3 := Lib.hid (Kit.step HB2.out hb)
  clear hb
  go_wp2_with fail
  go_ret
  exact ⟨rfl, HB3.out⟩
theorem sum_step (X Y : List UInt8) (hl : X.length = Y.length) (k : Nat) (h : k < X.length) : (Gf.sumW X Y).take k ++ [co X k ^^^ co Y k] = (Gf.sumW X Y).take (k + 1) := by
  have hs : k < (Gf.sumW X Y).length := by simp [Gf.sumW]; omega
  rw [List.take_add_one, List.getElem?_eq_getElem hs]
  simp [Gf.sumW, co, List.getD_eq_getElem?_getD, show k < X.length by omega, show k < Y.length by omega]
/-- a word times a number, so far -/
def tmL (X : List UInt8) (y : UInt8) (k : Nat) : List UInt8 := tab (fun m => if m < k then Gf.gm y (co X m) else 0) X.length
@[simp] theorem tmL_length (X : List UInt8) (y : UInt8) (k : Nat) : (tmL X y k).length = X.length := by simp [tmL]
theorem co_tmL (X : List UInt8) (y : UInt8) (k m : Nat) (h : m < X.length) : co (tmL X y k) m = if m < k then Gf.gm y (co X m) else 0 := co_tab _ _ _ h
theorem tmL_zero (X : List UInt8) (y : UInt8) : tmL X y 0 = List.replicate X.length 0 := list_ext (by simp) fun m hm => by
  simp at hm
  rw [co_tmL _ _ _ _ hm, if_neg (by omega), co_zeros]
theorem tmL_full (X : List UInt8) (y : UInt8) : tmL X y X.length = X.map (Gf.gm y) := list_ext (by simp) fun m hm => by
  simp at hm
  rw [co_tmL _ _ _ _ hm, if_pos hm, co_map]
theorem tmL_step (X : List UInt8) (y : UInt8) (k : Nat) (h : k < X.length) : (tmL X y k).set k (Gf.gm y (co X k)) = tmL X y (k + 1) := list_ext (by simp) fun m hm => by
  simp at hm
  rw [co_set, co_tmL _ _ _ _ hm, co_tmL _ _ _ _ hm]
  by_cases e : k = m
  · subst e
    rw [if_pos ⟨rfl, by simpa using hm⟩, if_pos (by omega)]
  · rw [if_neg (fun h => e h.1)]
    by_cases e2 : m < k
    · rw [if_pos e2, if_pos (by omega)]
    · rw [if_neg e2, if_neg (by omega)]
theorem mul_one_one (c y : UInt8) : co (tr (mulL [c] [y])) 0 = Gf.gm y c := by
  rw [co_tr, co_mulL']
  show 0 ^^^ Gf.gm c y = _
  rw [UInt8.zero_xor, Gf.gm_comm]
def CsAt (X Y : List UInt8) (w : World) (v i : Value) (wr : World) : Prop :=
  ∃ k : Nat, k ≤ X.length ∧ i = .int .i64 k ∧ wr.ownsRow w.heap.size 5 1 v k (bytesV ((Gf.sumW X Y).take k)) ∧ Below w.heap.size w wr
def CtAt (X : List UInt8) (y : UInt8) (w : World) (i : Value) (wr : World) : Prop :=
  ∃ k : Nat, k ≤ X.length ∧ i = .int .i64 k ∧ Buf wr w.heap.size X.length (tmL X y k) ∧ Below w.heap.size w wr
set_option maxRecDepth 100000 in
set_option maxHeartbeats 8000000 in
theorem csm_main (a b : List UInt8) (y : UInt8) (o o2 : Option Addr) (c c2 : Nat) (w : World) (hA : RowIs w o (bytesV a) c) (hB : RowIs w o2 (bytesV b) c2) (h : a.length = b.length) (hl1 : 1 ≤ a.length) (hl2 : a.length ≤ 223) :
    Calls Tryd.prog 6 #[.slice o a.length c, .slice o2 b.length c2, .int .u8 (y.toNat : Int)] w fun e w' => e = .returned (.bool true) ∧ Below w.heap.size w w' := by
  have HA := Lib.hid hA
  have HBB := Lib.hid hB
  have HEB : Hid (∀ v, RowIs v o2 (bytesV b) c2 → Calls Tryd.prog 10 #[.slice o2 a.length c2] v fun e w' => ∃ r x, r.length = 32 ∧ IsCode (b ++ r) ∧ e = .returned (.tuple #[x, .nilIface]) ∧ RowV (b ++ r) x w' ∧ Below v.heap.size v w') := Lib.hid fun v hv => by
    have := encode_any b o2 c2 v hv (by omega) (by omega)
    rwa [← h] at this
  have HL := Lib.hid h
  rw [← h]
  have hca := hA.cap
  have hcb := hB.cap
  have hle := hA.le
  simp only [bytesV_length] at hle
  unfold maxLen at hca hcb
  have hd : decide ((223 : Int) < (a.length : Int)) = false := decide_eq_false (by omega)
  obtain ⟨i0, hi, hz0, hz1, hz2⟩ := info_parts info_u8
  clear hA hB h
  go_enter Tryd.func6, Tryd.ntmps6
  go_wp2_with fail
  refine (alive3_any _).mono ?_; rintro e w1 ⟨rfl, hb⟩
  have HB1 := Lib.hid hb
  clear hb
  go_wp2_with fail
  refine (encode_any a o c w1 (HA.out.later HB1.out) hl1 hl2).mono ?_; rintro e w2 ⟨r, x, hr, hcA, rfl, hx, hb⟩
  have HB2 := Lib.hid (Kit.step HB1.out hb)
  have hXl : (a ++ r).length = a.length + 32 := by rw [List.length_append, hr]
  generalize a ++ r = X at *
  have HX2 := Lib.hid hx
  have HCA := Lib.hid hcA
  have HXL := Lib.hid hXl
  clear hb hx hcA hXl hr
  go_wp2_with fail
  refine (HEB.out w2 (HBB.out.later HB2.out)).mono ?_; rintro e w3 ⟨r2, x2, hr, hcB, rfl, hy, hb⟩
  have HB3 := Lib.hid (Kit.step HB2.out hb)
  have hYl : (b ++ r2).length = X.length := by rw [List.length_append, hr, HXL.out, HL.out]
  generalize b ++ r2 = Y at *
  have HX3 := Lib.hid (HX2.out.later hb)
  have HY3 := Lib.hid hy
  have HCB := Lib.hid hcB
  have HYL := Lib.hid hYl
  obtain ⟨oX, cX, rfl, hX⟩ := HX3.out
  obtain ⟨oY, cY, rfl, hY⟩ := HY3.out
  rw [hYl]
  have hcX := hX.cap
  have hcY := hY.cap
  have hlX := hX.le
  have hlY := hY.le
  simp only [bytesV_length] at hlX hlY
  rw [hYl] at hlY
  unfold maxLen at hcX hcY
  have HXR := Lib.hid hX
  have HYR := Lib.hid hY
  have hXn : X.length ≤ 255 := by have := HXL.out; omega
  have hXp : 33 ≤ X.length := by have := HXL.out; omega
  clear hb hy hcB hYl hr hX hY HX2 HX3 HY3 HEB
  have HO0 : Hid ((w3.alloc (.cells #[] 5)).ownsRow w3.heap.size 5 1 (.slice (some ⟨w3.heap.size, 0, none⟩) 0 0) 0 (bytesV [])) := Lib.hid (World.ownsRow_lit w3 #[] 0 (Nat.le_refl _) (Nat.zero_le _) rfl)
  have HBE : Hid (Below w3.heap.size w3 (w3.alloc (.cells #[] 5))) := Lib.hid ((Below.refl _ _).alloc (Nat.le_refl _) _)
  go_wp2_with fail
  go_loopw [11, 12, 58] (fun v _ i wr => CsAt X Y w3 v i wr) (fun _ _ i _ => X.length - (intOf i).toNat)
  case atStart => exact ⟨0, Nat.zero_le _, rfl, HO0.out, HBE.out⟩
  case round =>
    obtain ⟨k, hk, rfl, hv, hb⟩ := hrel
    have HV := Lib.hid hv
    have HBR := Lib.hid hb
    clear HO0 HBE
    by_cases hlt : k < X.length
    · obtain ⟨b1, off1, rfl, hb1, hcell⟩ := (HXR.out.later hb).cells (by simp; omega)
      have hc1 : wr.cell? ⟨b1, off1 + k, none⟩ = some (.int .u8 ((co X k).toNat : Int)) := hcell k _ (bytesV_get X k hlt)
      have hltb : k < Y.length := by have := HYL.out; omega
      obtain ⟨b2, off2, rfl, hb2, hcell2⟩ := (HYR.out.later hb).cells (by simp; omega)
      have hc2 : wr.cell? ⟨b2, off2 + k, none⟩ = some (.int .u8 ((co Y k).toNat : Int)) := hcell2 k _ (bytesV_get Y k hltb)
      have hk0 : (0 : Int) ≤ (k : Int) := by omega
      have hk1 : (k : Int) < (X.length : Int) := by omega
      have HST := Lib.hid (sum_step X Y HYL.out.symm k hlt)
      have hx := u8c (co X k) (co Y k)
      generalize co X k ^^^ co Y k = s at *
      generalize co X k = p at *
      generalize co Y k = q at *
      have hpl := UInt8.toNat_lt p
      have hql := UInt8.toNat_lt q
      have hsl := UInt8.toNat_lt s
      clear hcell hcell2 hv hb
      have hc1' : wr.drew.cell? ⟨b1, off1 + k, none⟩ = _ := hc1
      have hc2' : wr.drew.cell? ⟨b2, off2 + k, none⟩ = _ := hc2
      have HV1 : Hid (((wr.drew).alloc (.cells #[.int .u8 (s.toNat : Int)] 5)).ownsRow w3.heap.size 5 1 _ k (bytesV ((Gf.sumW X Y).take k))) := Lib.hid (World.ownsRow.alloc (show wr.drew.ownsRow w3.heap.size 5 1 _ k (bytesV ((Gf.sumW X Y).take k)) from HV.out) _)
      have HB1 : Hid (Below w3.heap.size w3 ((wr.drew).alloc (.cells #[.int .u8 (s.toNat : Int)] 5))) := Lib.hid ((Kit.dn HBR.out 1).alloc HBR.out.size _)
      have HC1 : Hid (((wr.drew).alloc (.cells #[.int .u8 (s.toNat : Int)] 5)).cell? ⟨wr.heap.size, 0, none⟩ = some (.int .u8 (s.toNat : Int))) := Lib.hid (cell_of_row _ _ 0 _ _ _ (show ((wr.drew).alloc (.cells #[.int .u8 (s.toNat : Int)] 5)).heap[wr.heap.size]? = _ from World.alloc_heap_new wr.drew _))
      go_wp2_with fail
      refine wp_region_any (by kernel_rfl) ?_
      change wpAny _ _ _ _ _ _ _ (World.drew _)
      refine wpAny_take (i := 0) (v := ?va1) rfl (by kernel_rfl) (by kernel_rfl) (by kernel_rfl) (fun _ _ _ h => h) (Or.inl ⟨by rfl, ?ha1⟩) ?ra1
      case ha1 => (intro w; (go_simp <;> with_reducible rfl))
      refine wpAny_take (i := 1) (v := ?va2) rfl (by kernel_rfl) (by kernel_rfl) (by kernel_rfl) (fun _ _ _ h => h) (Or.inl ⟨by rfl, ?ha2⟩) ?ra2
      case ha2 => (intro w; (go_simp <;> with_reducible rfl))
      refine wpAny_take (i := 2) (v := ?va3) rfl (by kernel_rfl) (by kernel_rfl) (by kernel_rfl) (fun _ _ _ h => h) (Or.inl ⟨by rfl, ?ha3⟩) ?ra3
      case ha3 => (intro w; (go_simp <;> with_reducible rfl))
      refine wpAny_take (i := 3) (v := ?va4) rfl (by kernel_rfl) (by kernel_rfl) (by kernel_rfl) (fun _ _ _ h => h) (Or.inl ⟨by rfl, ?ha4⟩) ?ra4
      case ha4 => (intro w; (go_simp <;> with_reducible rfl))
      refine wpAny_take (i := 5) (v := ?va5) rfl (by kernel_rfl) (by kernel_rfl) (by kernel_rfl) (fun _ _ _ h => h) (Or.inl ⟨by rfl, ?ha5⟩) ?ra5
      case ha5 => (intro w; (go_simp <;> with_reducible rfl))
      refine wpAny_take (i := 6) (v := ?va6) rfl (by kernel_rfl) (by kernel_rfl) (by kernel_rfl) (fun _ _ _ h => h) (Or.inl ⟨by rfl, ?ha6⟩) ?ra6
      case ha6 => (intro w; (go_simp <;> with_reducible rfl))
      refine wpAny_take (i := 7) (v := ?va7) rfl (by kernel_rfl) (by kernel_rfl) (by kernel_rfl) (fun _ _ _ h => h) (Or.inl ⟨by rfl, ?ha7⟩) ?ra7
      case ha7 => (intro w; (go_simp <;> with_reducible rfl))
      refine wpAny_ready (rs := [4, 8]) (by kernel_rfl) (by simp) ?_
      refine AllReady.cons rfl (fun K hK => ?_) (AllReady.cons rfl (fun K hK => ?_) AllReady.nil)
      · go_simp
        refine hK _ _ ?_
        clear hK K
        refine wpAny_ready (rs := [8]) (by kernel_rfl) (by simp) ?_
        refine AllReady.cons rfl (fun K hK => ?_) AllReady.nil
        go_simp
        refine hK _ _ ?_
        clear hK K
        refine wpAny_take (i := 9) (v := ?va8) rfl (by kernel_rfl) (by kernel_rfl) (by kernel_rfl) (fun _ _ _ h => h) (Or.inl ⟨by rfl, ?ha8⟩) ?ra8
        case ha8 => (intro w; (go_simp <;> with_reducible rfl))
        refine wpAny_ready (rs := [10]) (by kernel_rfl) (by simp) ?_
        refine AllReady.cons rfl (fun K hK => ?_) AllReady.nil
        go_simp
        refine hK _ _ ?_
        clear hK K
        refine wpAny_ready (rs := [11]) (by kernel_rfl) (by simp) ?_
        refine AllReady.cons rfl (fun K hK => ?_) AllReady.nil
        rw [if_pos (by rfl)]
        refine wp_append_byte (.tmp 61) (.tmp 71) rfl w3.heap.size _ k ((Gf.sumW X Y).take k) rfl HV1.out _ s rfl HC1.out (by omega) HB1.out.size fun v' w5 hv hg => hK _ _ ?_
        clear hK K
        rw [HST.out] at hv
        have HV5 := Lib.hid hv
        have HB5 := Lib.hid (own_below (n := 0) HB1.out HV1.out hg)
        clear hv hg
        refine wpAny_ready (rs := [12]) (by kernel_rfl) (by simp) ?_
        refine AllReady.cons rfl (fun K hK => ?_) AllReady.nil
        go_simp
        refine hK _ _ ?_
        clear hK K
        refine wpAny_done (by kernel_rfl) ?_ _
        go_wp2_with fail
        go_roundw
        case rel => exact ⟨k + 1, by omega, by go_num, HV5.out, HB5.out⟩
        case measure => simp [intOf]; omega
      · go_simp
        refine hK _ _ ?_
        clear hK K
        refine wpAny_ready (rs := [4]) (by kernel_rfl) (by simp) ?_
        refine AllReady.cons rfl (fun K hK => ?_) AllReady.nil
        go_simp
        refine hK _ _ ?_
        clear hK K
        refine wpAny_take (i := 9) (v := ?va9) rfl (by kernel_rfl) (by kernel_rfl) (by kernel_rfl) (fun _ _ _ h => h) (Or.inl ⟨by rfl, ?ha9⟩) ?ra9
        case ha9 => (intro w; (go_simp <;> with_reducible rfl))
        refine wpAny_ready (rs := [10]) (by kernel_rfl) (by simp) ?_
        refine AllReady.cons rfl (fun K hK => ?_) AllReady.nil
        go_simp
        refine hK _ _ ?_
        clear hK K
        refine wpAny_ready (rs := [11]) (by kernel_rfl) (by simp) ?_
        refine AllReady.cons rfl (fun K hK => ?_) AllReady.nil
        rw [if_pos (by rfl)]
        refine wp_append_byte (.tmp 61) (.tmp 71) rfl w3.heap.size _ k ((Gf.sumW X Y).take k) rfl HV1.out _ s rfl HC1.out (by omega) HB1.out.size fun v' w5 hv hg => hK _ _ ?_
        clear hK K
        rw [HST.out] at hv
        have HV5 := Lib.hid hv
        have HB5 := Lib.hid (own_below (n := 0) HB1.out HV1.out hg)
        clear hv hg
        refine wpAny_ready (rs := [12]) (by kernel_rfl) (by simp) ?_
        refine AllReady.cons rfl (fun K hK => ?_) AllReady.nil
        go_simp
        refine hK _ _ ?_
        clear hK K
        refine wpAny_done (by kernel_rfl) ?_ _
        go_wp2_with fail
        go_roundw
        case rel => exact ⟨k + 1, by omega, by go_num, HV5.out, HB5.out⟩
        case measure => simp [intOf]; omega
    · have hkN : k = X.length := by omega
      subst hkN
      have hSl : (Gf.sumW X Y).length = X.length := by have := HYL.out; simp [Gf.sumW]; omega
      rw [List.take_of_length_le (by omega)] at hv
      obtain ⟨oS, cS, rfl, hSr⟩ := owns_rv hv hSl.symm
      have HSC : Hid (IsCode (Gf.sumW X Y)) := Lib.hid (HCA.out.sum HCB.out HYL.out.symm)
      have HTC : Hid (IsCode (X.map (Gf.gm y))) := Lib.hid (HCA.out.scale y)
      have HTF := Lib.hid (tmL_full X y)
      have HTZ := Lib.hid (tmL_zero X y)
      rw [hSl]
      generalize Gf.sumW X Y = S at *
      have hcS := hSr.cap
      have hlS := hSr.le
      simp only [bytesV_length] at hlS
      rw [hSl] at hlS
      unfold maxLen at hcS
      have HSR := Lib.hid hSr
      have HSL := Lib.hid hSl
      have HXW := Lib.hid (HXR.out.later HBR.out)
      have HBW : Hid (Below w.heap.size w wr) := Lib.hid (Kit.step HB3.out hb)
      clear hv hb hSr hSl HV
      go_wp2_with (at_make; refine wpList_make_full _ rfl _ _ 22 rfl 0 5 i0 (.int .u8 0) 1 Tryd.underlying22 hi hz0 hz1 _ _ _ _ X.length rfl rfl (by omega) (by omega) (by rw [hz2]; omega) (by unfold maxLen; omega) (Nat.zero_le _) ?_)
      intro w5 hown hgrow
      have hb5 : Below wr.heap.size wr w5 := (Below.refl _ _).grown hgrow (Nat.le_refl _) (fun k h => by cases h)
      have hbuf : Buf w5 wr.heap.size X.length (tmL X y 0) := by rw [HTZ.out]; exact buf_made hown
      have HB5 := Lib.hid hb5
      have HBF := Lib.hid hbuf
      clear hown hgrow hb5 hbuf
      go_wp2_with fail
      go_loopw [14, 15, 16, 79] (fun _ _ _ i wr2 => CtAt X y wr i wr2) (fun _ _ _ i _ => X.length - (intOf i).toNat)
      case atStart => exact ⟨0, Nat.zero_le _, rfl, HBF.out, HB5.out⟩
      case round =>
        rename World => W6
        obtain ⟨k, hk, rfl, hbf, hb⟩ := hrel
        have HBF6 := Lib.hid hbf
        have HB6 := Lib.hid hb
        clear hbf hb HBF HB5
        by_cases hlt : k < X.length
        · obtain ⟨b1, off1, rfl, hb1, hcell⟩ := (HXW.out.later HB6.out).cells (by simp; omega)
          have hc1 : W6.cell? ⟨b1, off1 + k, none⟩ = some (.int .u8 ((co X k).toNat : Int)) := hcell k _ (bytesV_get X k hlt)
          have HST := Lib.hid (tmL_step X y k hlt)
          have hmo := mul_one_one (co X k) y
          have hk0 : (0 : Int) ≤ (k : Int) := by omega
          have hk1 : (k : Int) < (X.length : Int) := by omega
          generalize Gf.gm y (co X k) = s at *
          generalize co X k = p at *
          have hpl := UInt8.toNat_lt p
          have hyl := UInt8.toNat_lt y
          have hsl := UInt8.toNat_lt s
          obtain ⟨w7, hw7⟩ : ∃ w7, (W6.alloc (.cells (bytesV [p]).toArray 5)).alloc (.cells (bytesV [y]).toArray 5) = w7 := ⟨_, rfl⟩
          have hb7 : Below W6.heap.size W6 w7 := by rw [← hw7]; exact ((Below.refl _ _).alloc (Nat.le_refl _) _).alloc (by simp) _
          have hr1 : RowIs w7 (some ⟨W6.heap.size, 0, none⟩) (bytesV [p]) 1 := by
            rw [← hw7]
            exact (row_cells (z := [p]) (World.alloc_heap_new W6 _) (by unfold maxLen; simp)).later ((Below.refl _ _).alloc (Nat.le_refl _) _)
          have hr2 : RowIs w7 (some ⟨W6.heap.size + 1, 0, none⟩) (bytesV [y]) 1 := by
            rw [← hw7]
            have := World.alloc_heap_new (W6.alloc (.cells (bytesV [p]).toArray 5)) (.cells (bytesV [y]).toArray 5)
            rw [World.size_alloc] at this
            exact row_cells (z := [y]) this (by unfold maxLen; simp)
          have hmul := rmulp_any [p] [y] _ _ _ _ w7 hr1 hr2 (by simp)
          rw [← hw7] at hmul
          have HMU := Lib.hid hmul
          have HW7 := Lib.hid hw7
          have HB7 := Lib.hid hb7
          have HMO := Lib.hid hmo
          clear hcell hmul hw7 hb7 hr1 hr2 hmo
          generalize tr (mulL [p] [y]) = m at *
          go_wp2_with fail
          refine HMU.out.mono ?_; rintro e w8 ⟨q, rfl, ⟨oq, cq, rfl, hq⟩, hb8⟩
          rw [HW7.out] at hb8
          have HB8 := Lib.hid (Kit.step HB7.out hb8)
          have hat := at_any m 0 oq cq w8 hq (by omega)
          rw [HMO.out] at hat
          have HAT := Lib.hid hat
          have hqc := hq.cap
          have hql := hq.le
          simp only [bytesV_length] at hql
          unfold maxLen at hqc
          have HBF8 := Lib.hid (HBF6.out.later HB8.out)
          have hc2 := HBF8.out.cell k (by simp; omega)
          have hf2 := HBF8.out.frozen k
          have hst := HBF8.out.store k s
          rw [HST.out] at hst
          have HS9 := Lib.hid hst
          have HB9 := Lib.hid (Kit.step HB6.out HB8.out)
          have HBs : Hid (Below wr.heap.size wr w8) := Lib.hid (HB6.out.trans (HB8.out.mono HB6.out.size))
          clear hb8 hq hat hst HMU
          go_wp2_with fail
          refine HAT.out.mono ?_; rintro e w9 ⟨rfl, rfl⟩
          go_wp2_with fail
          go_roundw
          case rel => exact ⟨k + 1, by omega, by go_num, HS9.out.1, HBs.out.trans (Only.below HS9.out.2 (Nat.le_refl _) HBs.out.size)⟩
          case measure => simp [intOf]; omega
        · obtain rfl : k = X.length := by omega
          rw [HTF.out] at HBF6
          have hR1 := right_any S oS cS W6 (HSR.out.later HB6.out) (by rw [HSL.out]; omega)
          rw [syn_code HSC.out, HSL.out] at hR1
          have HR1 := Lib.hid hR1
          have hTl : (X.map (Gf.gm y)).length = X.length := List.length_map _
          generalize X.map (Gf.gm y) = T at *
          have hR2 : ∀ v, Below W6.heap.size W6 v → Calls Tryd.prog 15 #[.slice (some ⟨wr.heap.size, 0, none⟩) X.length X.length] v fun e w' => e = .returned (.bool true) ∧ Below v.heap.size v w' := fun v hv => by
            have := right_any T _ _ v (HBF6.out.row.later hv) (by rw [hTl]; omega)
            rw [syn_code HTC.out, hTl] at this
            exact this
          have HR2 := Lib.hid hR2
          have HBx := Lib.hid (Kit.step HBW.out HB6.out)
          clear hR1 hR2 hTl
          go_wp2_with fail
          refine HR1.out.mono ?_; rintro e w7 ⟨rfl, hb⟩
          have HB7 := Lib.hid hb
          have HBy := Lib.hid (Kit.step HBx.out hb)
          clear hb
          go_wp2_with fail
          refine (HR2.out _ HB7.out).mono ?_; rintro e w8 ⟨rfl, hb⟩
          have HBz := Lib.hid (Kit.step HBy.out hb)
          clear hb
          go_wp2_with fail
          go_ret
          exact ⟨rfl, HBz.out⟩
theorem csm_walk (a b : List UInt8) (y : UInt8) (o o2 : Option Addr) (c c2 : Nat) (w : World) (pe : Addr) (hE : w.cell? ⟨0, 0, none⟩ = some (.iface 92 (.pointer (some pe)))) (hA : RowIs w o (bytesV a) c) (hB : RowIs w o2 (bytesV b) c2) :
    Calls Tryd.prog 6 #[.slice o a.length c, .slice o2 b.length c2, .int .u8 (y.toNat : Int)] w fun e w' => e = .returned (.bool true) ∧ Below w.heap.size w w' := by
  have hca := hA.cap
  have hcb := hB.cap
  have h1 := hA.le
  have h2 := hB.le
  simp only [bytesV_length] at h1 h2
  unfold maxLen at hca hcb
  by_cases h : a.length = b.length
  · by_cases h3 : 223 < a.length
    · rw [← h]
      exact csm_long a.length c c2 o o2 y w h3 (by omega)
    · by_cases h0 : a.length = 0
      · rw [← h, h0]
        exact csm_none c c2 o o2 y w pe hE
      · exact csm_main a b y o o2 c c2 w hA hB h (by omega) (by omega)
  · exact csm_ne a.length b.length c c2 o o2 y w h (by omega) (by omega)
end Go.Proofs.YtkkmgjjafbjnjaaDoor
