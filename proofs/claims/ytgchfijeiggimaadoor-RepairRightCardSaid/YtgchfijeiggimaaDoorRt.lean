/- The walk of RepairRight. -/
import Derived.Test.YtgchfijeiggimaaDoorRe1
namespace Go.Proofs.YtgchfijeiggimaaDoor
open Go.RowKit
set_option linter.unusedVariables false
set_option linter.unusedSimpArgs false
theorem syn5_guard : Tryd.prog.eqGuardType Tryd.prog.depth 40 = false := by kernel_rfl
theorem syn5_built : Tryd.prog.built 40 [] = some (bytesV zsyn).toArray := by kernel_rfl
theorem syn5_eql (xs ys : List UInt8) (hx : xs.length = 32) (hy : ys.length = 32) (w : World) : (binOp .eql 40 (.agg (bytesV xs).toArray) (.agg (bytesV ys).toArray)).run Tryd.prog w = .ok (.bool (xs == ys)) w :=
  run_eql_bytes w 40 5 32 syn_under Tryd.underlying5 (fun w => by
    obtain ⟨i0, hi, _, hz1, _⟩ := info_parts info_u8
    simp [sizeOf, typeInfo, hi, hz1]) xs ys hx hy
theorem neq_of_eql {P : Program} {t : TypeId} {xs ys : Array Value} {b : Bool} {w : World} (h : (binOp .eql t (.agg xs) (.agg ys)).run P w = .ok (.bool b) w) : (binOp .neq t (.agg xs) (.agg ys)).run P w = .ok (.bool (!b)) w := by
  rw [run_neq_struct]
  rw [run_eql_struct] at h
  cases hq : (Op.equalIn 10000 t (.agg xs) (.agg ys)).run P w with
  | ok b' w' =>
    rw [hq] at h
    simp only [Result.andThen_ok] at h ⊢
    injection h with h1 h2
    injection h1 with h1
    rw [h1, h2]
  | _ => rw [hq] at h; cases h
theorem wp_build_syn {P : Program} {o : Oper} {a : Act} {w : World} {K : Act → World → Prop} {Q : Exit → Act → World → Prop} (T : TypeId) (ho : o.op = .build T #[]) (Z : Array Value) (hb : P.built T [] = some Z) (h : K (a.put o.dst (.agg Z)) w) : o.wp P a w K Q := by
  unfold Oper.wp
  rw [exec_build ho hb w]
  exact h
def othN (W v : List UInt8) (z : List Int) (k : Nat) : List Nat := (List.range k).filter fun p => decide (co v p ≠ co W p) && !decide ((p : Int) ∈ z)
theorem othN_step (W v : List UInt8) (z : List Int) (k : Nat) : othN W v z (k + 1) = if (decide (co v k ≠ co W k) && !decide ((k : Int) ∈ z)) = true then othN W v z k ++ [k] else othN W v z k := by
  unfold othN
  rw [List.range_succ, List.filter_append]
  split
  · rename_i h
    rw [List.filter_cons, if_pos h]
    rfl
  · rename_i h
    rw [List.filter_cons, if_neg h]
    simp
theorem othN_le (W v : List UInt8) (z : List Int) (k : Nat) : (othN W v z k).length ≤ k := by
  have := List.length_filter_le (fun p => decide (co v p ≠ co W p) && !decide ((p : Int) ∈ z)) (List.range k)
  rwa [List.length_range] at this
theorem othN_chg {v W : List UInt8} {n : Nat} {z : List Int} {H : List Nat} (h : Chg v W n z H) : (othN W v z n).length = H.length := by
  have hm : ∀ p, p ∈ othN W v z n ↔ p < n ∧ co v p ≠ co W p ∧ (p : Int) ∉ z := fun p => by
    unfold othN
    rw [List.mem_filter, List.mem_range]
    simp
  have h1 := nodup_sub (othN W v z n) H (List.nodup_range.sublist List.filter_sublist) fun p hp => by
    obtain ⟨h1, h2, h3⟩ := (hm p).1 hp
    exact h.all p h1 (fun e => h2 e.symm) h3
  have h2 := nodup_sub H (othN W v z n) h.nd fun p hp => by
    obtain ⟨h1, h2, h3⟩ := h.mem p hp
    exact (hm p).2 ⟨h1, fun e => h2 e.symm, h3⟩
  omega
theorem any_take {z : List Int} {k : Nat} (hk : k < z.length) (q : Int) : (decide (q ∈ z.take k) || decide (ci z k = q)) = decide (q ∈ z.take (k + 1)) := by
  have e : z.take (k + 1) = z.take k ++ [ci z k] := by
    rw [List.take_add_one, List.getElem?_eq_getElem hk]
    simp [ci, List.getD_eq_getElem?_getD, List.getElem?_eq_getElem hk]
  rw [e]
  simp only [List.mem_append, List.mem_singleton, Bool.decide_or]
  congr 1
  exact decide_eq_decide.2 eq_comm
def Ot5At (W v : List UInt8) (z : List Int) (n : Nat) (w0 : World) (ov iv : Value) (wr : World) : Prop :=
  ∃ k : Nat, k ≤ n ∧ iv = .int .i64 k ∧ ov = .int .i64 (othN W v z k).length ∧ Below w0.heap.size w0 wr
def RgAt5 (z : List Int) (q : Int) (w0 : World) (gv iv : Value) (wr : World) : Prop :=
  ∃ k : Nat, k ≤ z.length ∧ iv = .int .i64 k ∧ gv = .bool (decide (q ∈ z.take k)) ∧ Below w0.heap.size w0 wr
set_option maxRecDepth 100000 in
theorem rt_long (m k : Nat) (o oe : Option Addr) (c ce : Nat) (w : World) (h : 300 < m ∨ 40 < k) (hm : m ≤ 9223372036854775807) (hk : k ≤ 9223372036854775807) :
    Calls Tryd.prog 4 #[.slice o m c, .slice oe k ce] w fun e w' => e = .returned (.bool true) ∧ Below w.heap.size w w' := by
  by_cases h1 : 300 < m
  · have hd1 : decide ((300 : Int) < (m : Int)) = true := decide_eq_true (by omega)
    clear h h1
    go_enter Tryd.func4, Tryd.ntmps4
    go_wp2_with fail
    refine (alive5_any _).mono ?_; rintro e w1 ⟨rfl, hb⟩
    have HB := Lib.hid hb
    clear hb
    go_wp2_with fail
    go_ret
    exact ⟨rfl, HB.out⟩
  · have hd1 : decide ((300 : Int) < (m : Int)) = false := decide_eq_false (by omega)
    have hd2 : decide ((40 : Int) < (k : Int)) = true := decide_eq_true (by omega)
    clear h h1
    go_enter Tryd.func4, Tryd.ntmps4
    go_wp2_with fail
    refine (alive5_any _).mono ?_; rintro e w1 ⟨rfl, hb⟩
    have HB := Lib.hid hb
    clear hb
    go_wp2_with fail
    go_ret
    exact ⟨rfl, HB.out⟩
set_option maxRecDepth 100000 in
theorem rt_err (m k a : Nat) (A : Nat → Addr) (o oe : Option Addr) (c ce : Nat) (w : World) (hm : m ≤ 300) (hk : k ≤ 40)
    (hF : ∀ v, Below w.heap.size w v → Calls Tryd.prog 9 #[.slice o m c, .slice oe k ce] v fun e w' => e = fx_v A a ∧ Below v.heap.size v w') :
    Calls Tryd.prog 4 #[.slice o m c, .slice oe k ce] w fun e w' => e = .returned (.bool true) ∧ Below w.heap.size w w' := by
  have hd1 : decide ((300 : Int) < (m : Int)) = false := decide_eq_false (by omega)
  have hd2 : decide ((40 : Int) < (k : Int)) = false := decide_eq_false (by omega)
  have HF := Lib.hid hF
  clear hF hm hk
  go_enter Tryd.func4, Tryd.ntmps4
  go_wp2_with fail
  refine (alive5_any _).mono ?_; rintro e w1 ⟨rfl, hb⟩
  have HB := Lib.hid hb
  clear hb
  go_wp2_with fail
  refine (HF.out _ HB.out).mono ?_; rintro e w2 ⟨rfl, hb⟩
  obtain ⟨w3, hw3⟩ : ∃ w3, w2.alloc (.cells #[.slice none 0 0, .slice none 0 0, .int .i64 0] 35) = w3 := ⟨_, rfl⟩
  have hb3 : Below w2.heap.size w2 w3 := by rw [← hw3]; exact (Below.refl _ _).alloc (Nat.le_refl _) _
  have hg3 : w3.heap[w2.heap.size]? = some (.cells #[.slice none 0 0, .slice none 0 0, .int .i64 0] 35 (0, 0)) := by rw [← hw3]; exact World.alloc_heap_new _ _
  have hcc := (fx_cells hg3).1
  rw [← hw3] at hcc
  have HB3 := Lib.hid (Kit.step (Kit.step HB.out hb) hb3)
  have HW3 := Lib.hid hw3
  unfold fx_v fxz
  clear hb hb3 hg3 hw3
  go_wp2_with fail
  rw [HW3.out]
  go_ret
  exact ⟨rfl, HB3.out⟩
theorem code_syn {v : List UInt8} (h : IsCode v) : synL v = zsyn := list_ext (by simp [zsyn, synL]) fun j hj => by
  have hj : j < 32 := by simpa [synL] using hj
  unfold synL
  rw [co_tab _ _ _ hj, h j hj]
  unfold zsyn
  exact (zeros_co 32 j).symm
set_option maxRecDepth 100000 in
set_option maxHeartbeats 8000000 in
theorem rt_good (W : List UInt8) (z : List Int) (n c cz : Nat) (o oz : Option Addr) (w : World) (A : Nat → Addr) (hW : RowIs w o (bytesV W) c) (hZ : RowIs w oz (intsV z) cz) (hn : W.length = n) (h33 : 33 ≤ n) (h255 : n ≤ 255) (hok : EOk n z) (hE : Er.Six w A)
    (Z : Array Value) (hZs : (bytesV zsyn).toArray = Z) :
    Calls Tryd.prog 4 #[.slice o n c, .slice oz z.length cz] w fun e w' => e = .returned (.bool true) ∧ Below w.heap.size w w' := by
  have hz32 := hok.2.2
  have hd1 : decide ((300 : Int) < (n : Int)) = false := decide_eq_false (by omega)
  have hd2 : decide ((40 : Int) < (z.length : Int)) = false := decide_eq_false (by omega)
  have HF : Hid (∀ v, Below w.heap.size w v → Calls Tryd.prog 9 #[.slice o n c, .slice oz z.length cz] v (FxTo W n z A v)) := Lib.hid fun v hb => cfix_any W z n c cz o oz v A (hW.later hb) (hZ.later hb) hn h33 h255 hok (fun _ => hE.later hb) _ rfl _ rfl
  have HW := Lib.hid hW
  have HZ := Lib.hid hZ
  have HN := Lib.hid hn
  have HOK := Lib.hid hok
  have h1 := hW.le
  have h2 := hW.cap
  have h3 := hZ.le
  have h4 := hZ.cap
  simp only [bytesV_length, intsV_length] at h1 h3
  rw [hn] at h1
  unfold maxLen at h2 h4
  have hgd := syn5_guard
  have hbu := syn5_built
  rw [hZs] at hbu
  have HBU := Lib.hid hbu
  have hnq : ∀ v, (binOp .neq 40 (.agg Z) (.agg Z)).run Tryd.prog v = .ok (.bool false) v := fun v => by
    have := neq_of_eql (syn5_eql zsyn zsyn (by simp [zsyn]) (by simp [zsyn]) v)
    rw [hZs] at this
    simpa using this
  have HZs := Lib.hid hZs
  clear hW hZ hn hok hE hbu hZs
  go_enter Tryd.func4, Tryd.ntmps4
  go_wp2_with fail
  refine (alive5_any _).mono ?_; rintro e w1 ⟨rfl, hb⟩
  have HB1 := Lib.hid hb
  clear hb
  go_wp2_with fail
  refine (HF.out _ HB1.out).mono ?_; rintro e w2 ⟨hb, ⟨hno, rfl⟩ | ⟨v, H, x1, x2, hc, rfl, hr, hi⟩⟩
  · obtain ⟨w3, hw3⟩ : ∃ w3, w2.alloc (.cells #[.slice none 0 0, .slice none 0 0, .int .i64 0] 35) = w3 := ⟨_, rfl⟩
    have hb3 : Below w2.heap.size w2 w3 := by rw [← hw3]; exact (Below.refl _ _).alloc (Nat.le_refl _) _
    have hg3 : w3.heap[w2.heap.size]? = some (.cells #[.slice none 0 0, .slice none 0 0, .int .i64 0] 35 (0, 0)) := by rw [← hw3]; exact World.alloc_heap_new _ _
    have hcc := (fx_cells hg3).1
    rw [← hw3] at hcc
    have HB3 := Lib.hid (Kit.step (Kit.step HB1.out hb) hb3)
    have HW3 := Lib.hid hw3
    unfold fx_v fxz
    clear hb hb3 hg3 hw3 hno
    go_wp2_with fail
    rw [HW3.out]
    go_ret
    exact ⟨rfl, HB3.out⟩
  obtain ⟨o1, c1, rfl, hr⟩ := hr
  obtain ⟨o2, c2, rfl, hi⟩ := hi
  have hvl := hc.lv
  have HC := Lib.hid hc
  obtain ⟨d, hd⟩ : ∃ d, (dfL W v n).length = d := ⟨_, rfl⟩
  obtain ⟨L, hL⟩ : ∃ L, H.length = L := ⟨_, rfl⟩
  have hfew := hc.few
  rw [hL] at hfew
  have h5 := hr.le
  have h6 := hr.cap
  simp only [bytesV_length] at h5
  unfold maxLen at h6
  rw [hvl] at h5
  have HVL := Lib.hid hvl
  have HLH := Lib.hid hL
  obtain ⟨w3, hw3⟩ : ∃ w3, w2.alloc (.cells #[.slice o1 n c1, .slice o2 d c2, .int .i64 (L : Int)] 35) = w3 := ⟨_, rfl⟩
  have hb3 : Below w2.heap.size w2 w3 := by rw [← hw3]; exact (Below.refl _ _).alloc (Nat.le_refl _) _
  have hg3 : w3.heap[w2.heap.size]? = some (.cells #[.slice o1 n c1, .slice o2 d c2, .int .i64 (L : Int)] 35 (0, 0)) := by rw [← hw3]; exact World.alloc_heap_new _ _
  have hcc0 := (fx_cells hg3).1
  have hrs := rsyn_any v o1 c1 w3 (hr.later hb3)
  rw [code_syn hc.code, HZs.out, hvl] at hrs
  have HRS := Lib.hid hrs
  have HG3 := Lib.hid hg3
  have HR3 := Lib.hid (hr.later hb3)
  have HB3 := Lib.hid (Kit.step (Kit.step HB1.out hb) hb3)
  have HW3 := Lib.hid hw3
  rw [hvl, hd, hL]
  clear hb hb3 hg3 hw3 hc hr hi hvl hd hL hrs HF
  go_wp2_with (rw [HW3.out])
  refine HRS.out.mono ?_; rintro e w4 ⟨rfl, hb4⟩
  have HG4 : Hid (w4.heap[w2.heap.size]? = some (.cells #[.slice o1 n c1, .slice o2 d c2, .int .i64 (L : Int)] 35 (0, 0))) := Lib.hid (fx_keeps HG3.out hb4)
  have HR4 := Lib.hid (HR3.out.later hb4)
  have HB4 := Lib.hid (Kit.step HB3.out hb4)
  clear hb4 hcc0 HRS
  go_wp2_with (refine BigFrame.wpList_want (by rfl) fun K hK => wp_build_syn 40 rfl Z HBU.out (hK _ _ ?_))
  go_loopw [7, 49] (fun ov iv wr => Ot5At W v z n w4 ov iv wr) (fun _ iv _ => n - (intOf iv).toNat)
  case atStart => exact ⟨0, Nat.zero_le _, rfl, rfl, Below.refl _ _⟩
  case round =>
    obtain ⟨k, hk, rfl, rfl, hb⟩ := hrel
    have HB := Lib.hid hb
    have hol := othN_le W v z k
    by_cases hlt : k < n
    · have hk0 : (0 : Int) ≤ (k : Int) := by omega
      have hk1 : (k : Int) < (n : Int) := by omega
      clear hb
      go_wp2_with fail
      go_loopw [9, 54] (fun gv iv w7 => RgAt5 z k wr gv iv w7) (fun _ iv _ => z.length - (intOf iv).toNat)
      case atStart => exact ⟨0, Nat.zero_le _, rfl, by simp, Below.refl _ _⟩
      case round =>
        rename World => W7
        obtain ⟨j, hj, rfl, rfl, hb7⟩ := hrel
        have HB7 := Lib.hid hb7
        by_cases hjl : j < z.length
        · obtain ⟨b, off, rfl, hcell⟩ := ints_cell (HZ.out.later (Kit.step (Kit.step HB4.out HB.out) hb7)) j hjl
          have hj0 : (0 : Int) ≤ (j : Int) := by omega
          have hj1 : (j : Int) < (z.length : Int) := by omega
          have HT := Lib.hid (any_take hjl (k : Int))
          by_cases hg : (k : Int) ∈ z.take j
          · rw [decide_eq_true hg] at HT ⊢
            clear hb7 hg
            go_wp2_with fail
            go_roundw
            case rel => exact ⟨j + 1, by omega, by go_num, by rw [← HT.out]; simp, HB7.out⟩
            case measure => simp [intOf]; omega
          · rw [decide_eq_false hg] at HT ⊢
            obtain ⟨q, hq⟩ : ∃ q, ci z j = q := ⟨_, rfl⟩
            rw [hq] at hcell HT
            clear hb7 hg hq
            by_cases he : q = (k : Int)
            · have hbe : (q == (k : Int)) = true := by rw [beq_iff_eq]; exact he
              have hde : decide (q = (k : Int)) = true := decide_eq_true he
              rw [hde] at HT
              clear he
              go_wp2_with fail
              go_roundw
              case rel => exact ⟨j + 1, by omega, by go_num, by rw [← HT.out]; simp, HB7.out⟩
              case measure => simp [intOf]; omega
            · have hbe : (q == (k : Int)) = false := beq_false_of_ne he
              have hde : decide (q = (k : Int)) = false := decide_eq_false he
              rw [hde] at HT
              clear he
              go_wp2_with fail
              go_roundw
              case rel => exact ⟨j + 1, by omega, by go_num, by rw [← HT.out]; simp, HB7.out⟩
              case measure => simp [intOf]; omega
        · obtain rfl : j = z.length := by omega
          rename World => wA
          rw [List.take_length]
          have hbA := Kit.step HB.out hb7
          have HBA := Lib.hid hbA
          have hg5 := fx_keeps HG4.out hbA
          have hcc := (fx_cells hg5).1
          obtain ⟨b1, off1, rfl, hblt1, hcell1⟩ := (HR4.out.later hbA).cells (by simp; rw [HVL.out]; omega)
          have hc1 : wA.cell? ⟨b1, off1 + k, none⟩ = some (.int .u8 ((co v k).toNat : Int)) := hcell1 k _ (bytesV_get v k (by rw [HVL.out]; exact hlt))
          obtain ⟨b2, off2, rfl, hblt2, hcell2⟩ := (HW.out.later (Kit.step HB4.out hbA)).cells (by simp; rw [HN.out]; omega)
          have hc2 : wA.cell? ⟨b2, off2 + k, none⟩ = some (.int .u8 ((co W k).toNat : Int)) := hcell2 k _ (bytesV_get W k (by rw [HN.out]; exact hlt))
          have hxl := UInt8.toNat_lt (co v k)
          have hyl := UInt8.toNat_lt (co W k)
          have hws : IntKind.i64.wrap (((othN W v z k).length : Int) + 1) = ((othN W v z k).length : Int) + 1 := by rw [IntKind.wrap_i64]; omega
          have HST := Lib.hid (othN_step W v z k)
          clear hb7 hbA hg5 hblt1 hcell1 hblt2 hcell2
          by_cases he : co v k = co W k
          · have HD : Hid (othN W v z (k + 1) = othN W v z k) := Lib.hid (by
              rw [HST.out, if_neg (by simp [he])])
            rw [← he] at hc2
            generalize co v k = x at *
            have hnt : ((x.toNat : Int) != (x.toNat : Int)) = false := by simp
            clear he
            go_wp2_with fail
            go_quiet (fail)
            go_wp2_with fail
            go_roundw
            case rel => exact ⟨k + 1, by omega, by go_num, by rw [HD.out], HBA.out.trans ⟨rfl, rfl, rfl, Nat.le_refl _, fun _ _ => rfl⟩⟩
            case measure => simp [intOf]; omega
          · have hne : ¬ (co v k).toNat = (co W k).toNat := fun e => he (Gf.u8_ext e)
            have hnb : (((co v k).toNat : Int) == ((co W k).toNat : Int)) = false := beq_false_of_ne (by omega)
            have hnd : decide (((co v k).toNat : Int) = ((co W k).toNat : Int)) = false := decide_eq_false (by omega)
            have hnt : (((co v k).toNat : Int) != ((co W k).toNat : Int)) = true := by rw [bne_iff_ne]; omega
            by_cases hz : (k : Int) ∈ z
            · have HD : Hid (othN W v z (k + 1) = othN W v z k) := Lib.hid (by
                rw [HST.out, if_neg (by simp [hz])])
              rw [decide_eq_true hz]
              generalize co v k = x at *
              generalize co W k = y at *
              clear he hne hz
              go_wp2_with fail
              go_quiet (fail)
              go_wp2_with fail
              go_roundw
              case rel => exact ⟨k + 1, by omega, by go_num, by rw [HD.out], HBA.out.trans ⟨rfl, rfl, rfl, Nat.le_refl _, fun _ _ => rfl⟩⟩
              case measure => simp [intOf]; omega
            · have HD : Hid ((othN W v z (k + 1)).length = (othN W v z k).length + 1) := Lib.hid (by
                rw [HST.out, if_pos (by simp [hz, he])]; simp)
              rw [decide_eq_false hz]
              generalize co v k = x at *
              generalize co W k = y at *
              clear he hne hz
              go_wp2_with fail
              go_quiet (fail)
              go_wp2_with fail
              go_roundw
              case rel => exact ⟨k + 1, by omega, by go_num, by rw [HD.out]; go_num, HBA.out.trans ⟨rfl, rfl, rfl, Nat.le_refl _, fun _ _ => rfl⟩⟩
              case measure => simp [intOf]; omega
    · obtain rfl : k = n := by omega
      have hcc := (fx_cells (fx_keeps HG4.out hb)).2.2.1
      have hoL : (othN W v z k).length = L := by rw [othN_chg HC.out, HLH.out]
      rw [hoL]
      have HBE := Lib.hid (Kit.step HB4.out hb)
      have hw1 : IntKind.i64.wrap (2 * (L : Int)) = 2 * (L : Int) := by rw [IntKind.wrap_i64]; omega
      have hw2 : IntKind.i64.wrap (2 * (L : Int) + (z.length : Int)) = 2 * (L : Int) + (z.length : Int) := by rw [IntKind.wrap_i64]; omega
      have hd3 : decide (2 * (L : Int) + (z.length : Int) ≤ 32) = true := decide_eq_true (by omega)
      clear hb hol hoL
      go_wp2_with fail
      go_ret
      exact ⟨rfl, HBE.out⟩
theorem rt5_walk (W : List UInt8) (z : List Int) (o oz : Option Addr) (c cz : Nat) (w : World) (A : Nat → Addr) (hE : Er.Six w A) (hW : RowIs w o (bytesV W) c) (hZ : RowIs w oz (intsV z) cz) (hz : ∀ p ∈ z, (Lit.int .i64 p).wf = true) :
    Calls Tryd.prog 4 #[.slice o W.length c, .slice oz z.length cz] w fun e w' => e = .returned (.bool true) ∧ Below w.heap.size w w' := by
  have h1 := hW.le
  have h2 := hW.cap
  have h3 := hZ.le
  have h4 := hZ.cap
  simp only [bytesV_length, intsV_length] at h1 h3
  unfold maxLen at h2 h4
  have hz2 : ∀ k, k < z.length → -9223372036854775808 ≤ ci z k ∧ ci z k ≤ 9223372036854775807 := fun k hk => by
    have h1 : ci z k ∈ z := by
      unfold ci
      rw [List.getD_eq_getElem?_getD, List.getElem?_eq_getElem hk]
      exact List.getElem_mem hk
    exact i64_wf (hz _ h1)
  by_cases h : 300 < W.length ∨ 40 < z.length
  · exact rt_long _ _ o oz c cz w h (by omega) (by omega)
  · by_cases hf : 33 ≤ W.length ∧ W.length ≤ 255
    · rcases er_code W.length z A hf.1 hf.2 (by omega) with ⟨a, ha⟩ | hok
      · exact rt_err _ _ a A o oz c cz w (by omega) (by omega) fun v hb => cfix_bad W z W.length c cz a o oz v A (hW.later hb) (hZ.later hb) rfl hf.1 hf.2 (hE.later hb) ha _ rfl _ rfl
      · exact rt_good W z W.length c cz o oz w A hW hZ rfl hf.1 hf.2 hok hE _ rfl
    · exact rt_err _ _ 7 A o oz c cz w (by omega) (by omega) fun v hb => cfix_size W.length c cz z.length o oz v A (hE.later hb) hf (by omega) _ rfl
end Go.Proofs.YtgchfijeiggimaaDoor
