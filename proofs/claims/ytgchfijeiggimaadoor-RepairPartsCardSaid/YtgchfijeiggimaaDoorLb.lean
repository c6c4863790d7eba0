/- What the code and the document answer of the same erased places: the same error, or both the locator. What the register of a changed word is: the changed places that aren't erased; the errata locator's roots; the evaluator's degree. -/
import Derived.Test.YtgchfijeiggimaaDoorAl4
import Derived.Test.YtgchfijeiggimaaDoorEs
import Derived.Test.YtgchfijeiggimaaDoorPl
namespace Go.Proofs.YtgchfijeiggimaaDoor
open Go.RowKit
set_option linter.unusedVariables false
set_option linter.unusedSimpArgs false
theorem does_load_row4 {P : Program} {G : Nat → Value → World → Prop} {Q : Exit → Act → World → Prop} {i : Nat} {o : Oper} {b : Act} {v : World} {x : Operand} {ty t : TypeId} {g : Nat} {cs : Array Value} {fr : Nat × Nat} {d : TypeDesc} (ho : o.op = .load ty x) (hx : b.eval x = .pointer (some ⟨g, 0, none⟩))
    (hg : v.heap[g]? = some (.cells cs t fr)) (hu : P.underlying ty = some d) (hd : (match d with | .struct _ | .array _ _ => true | _ => false) = true) (hi : (P.info? ty).map (·.size) = some cs.size) (hG : G i (.agg cs) v) : Rg.Does P G Q i o b v :=
  Rg.does_pure _ (by simp only [execOp, ho, hx, Instr.loadAt, Instr.sureAddr, Sem.run_bind, Sem.run_pure, Result.andThen_ok, run_loadVar_row v g t ty cs fr d hg hu hd hi]) hG
theorem arr_size {ys : List UInt8} (h : ys.length = 32) : (Tryd.prog.info? 40).map (·.size) = some (bytesV ys).toArray.size := by
  rw [show (bytesV ys).toArray.size = 32 by simp [h]]; kernel_rfl
theorem arr_under : Tryd.prog.underlying 40 = some (.array 32 5) := by kernel_rfl
set_option maxRecDepth 100000 in
set_option maxHeartbeats 4000000 in
theorem cfi_size (m c : Nat) (o : Option Addr) (n : Int) (w : World) (A : Nat → Addr) (hE : Er.Six w A) (h : ¬ (33 ≤ n ∧ n ≤ 255)) (CS : Array Value) :
    Calls Tryd.prog 25 #[.agg CS, .int .i64 n, .slice o m c] w fun e w' => e = fe_v A 7 ∧ Below w.heap.size w w' := by
  obtain ⟨w1, hw1⟩ : ∃ w1, (w.alloc (.cells CS 60)).alloc (.cells #[.int .i64 0, .slice none 0 0, .slice none 0 0] 44) = w1 := ⟨_, rfl⟩
  have hb1 : Below w.heap.size w w1 := by rw [← hw1]; exact ((Below.refl _ _).alloc (Nat.le_refl _) _).alloc (by simp) _
  have hf1 : w1.heap[w.heap.size + 1]? = some (.cells #[.int .i64 0, .slice none 0 0, .slice none 0 0] 44 (0, 0)) := by
    have := World.alloc_heap_new (w.alloc (.cells CS 60)) (.cells #[.int .i64 0, .slice none 0 0, .slice none 0 0] 44)
    rw [hw1, World.size_alloc] at this
    exact this
  have HER := Lib.hid (cer_size m c o n w1 A (hE.later hb1) h)
  have HB1 := Lib.hid hb1
  have HF1 := Lib.hid hf1
  have HW1 := Lib.hid hw1
  rw [← hw1] at HER
  clear hE hb1 hf1 hw1 h
  go_enter Tryd.func25, Tryd.ntmps25
  go_wp2_with fail
  refine HER.out.mono ?_; rintro e w2 ⟨rfl, hb2⟩
  rw [HW1.out] at hb2
  have HB2 := Lib.hid (Kit.step HB1.out hb2)
  have hf2 : w2.heap[w.heap.size + 1]? = some (.cells #[.int .i64 0, .slice none 0 0, .slice none 0 0] 44 (0, 0)) := by rw [hb2.block _ (Array.getElem?_eq_some_iff.1 HF1.out).1]; exact HF1.out
  have hcc0 : w2.cell? ⟨w.heap.size + 1, 0, none⟩ = some (.int .i64 0) := by rw [cell_of_row _ _ 0 _ _ _ hf2]; rfl
  have hff0 : w2.frozen? ⟨w.heap.size + 1, 0, none⟩ = false := by unfold World.frozen?; rw [hf2]; rfl
  have hcc1 : w2.cell? ⟨w.heap.size + 1, 1, none⟩ = some (.slice none 0 0) := by rw [cell_of_row _ _ 1 _ _ _ hf2]; rfl
  have hff1 : w2.frozen? ⟨w.heap.size + 1, 1, none⟩ = false := by unfold World.frozen?; rw [hf2]; rfl
  have hcc2 : w2.cell? ⟨w.heap.size + 1, 2, none⟩ = some (.slice none 0 0) := by rw [cell_of_row _ _ 2 _ _ _ hf2]; rfl
  have hff2 : w2.frozen? ⟨w.heap.size + 1, 2, none⟩ = false := by unfold World.frozen?; rw [hf2]; rfl
  have HF2 := Lib.hid hf2
  unfold er_v
  clear hb2 hf2 HER
  go_wp2_with fail
  refine bodyPost_ret (results_cell_row2 rfl _ _ (w.heap.size + 1) 44 #[.int .i64 0, .slice none 0 0, .slice none 0 0] (0, 0) _ rfl (fnd_set HF2.out _ _ _) Tryd.underlying44 rfl fnd_size) rfl ?_
  exact ⟨rfl, HB2.out.trans (fnd_below (by omega) _ _ _)⟩
end Go.Proofs.YtgchfijeiggimaaDoor
namespace Go.Proofs.YtgchfijeiggimaaDoor
set_option linter.unusedVariables false
theorem co_sumW4 (a b : List UInt8) (h : a.length = b.length) (p : Nat) : co (Gf.sumW a b) p = co a p ^^^ co b p := by
  by_cases hp : p < a.length
  · simp only [co, Gf.sumW, List.getD_eq_getElem?_getD, List.getElem?_zipWith]
    rw [List.getElem?_eq_getElem hp, List.getElem?_eq_getElem (by omega)]
    rfl
  · rw [co_ge (by simp [Gf.sumW]; omega), co_ge (by omega), co_ge (by omega)]; rfl
theorem sum_ne {a b : List UInt8} (h : a.length = b.length) (p : Nat) : co (Gf.sumW a b) p ≠ 0 ↔ co b p ≠ co a p := by
  rw [co_sumW4 a b h]
  constructor
  · intro h1 h2
    exact h1 (by rw [h2, UInt8.xor_self])
  · intro h1 h2
    exact h1 (Gf.xor_eq_zero _ _ h2).symm
theorem mem_xsL {n p : Nat} {z : List Int} (hn : n ≤ 255) (hp : p < n) (hz : ∀ k, k < z.length → 0 ≤ ci z k ∧ ci z k < n) : Gf.al (n - 1 - p) ∈ xsL n z ↔ (p : Int) ∈ z := by
  have hz2 : ∀ q ∈ z, 0 ≤ q ∧ q < n := fun q hq => by
    obtain ⟨k, hk, rfl⟩ := List.getElem_of_mem hq
    have := hz k hk
    unfold ci at this
    rw [List.getD_eq_getElem?_getD, List.getElem?_eq_getElem hk] at this
    exact this
  constructor
  · intro h
    obtain ⟨q, hq, he⟩ := List.mem_map.1 h
    have h1 := hz2 q hq
    have h2 := (Gf.al_inj _ _).1 he
    have : q = (p : Int) := by omega
    rw [← this]; exact hq
  · intro h
    exact List.mem_map.2 ⟨(p : Int), h, by simp⟩
structure Chg (v W : List UInt8) (n : Nat) (z : List Int) (H : List Nat) : Prop where
  code : IsCode v
  lv : v.length = n
  lw : W.length = n
  hn : n ≤ 255
  ok : EOk n z
  nd : H.Nodup
  mem : ∀ p ∈ H, p < n ∧ co W p ≠ co v p ∧ (p : Int) ∉ z
  all : ∀ p, p < n → co W p ≠ co v p → (p : Int) ∉ z → p ∈ H
  few : 2 * H.length + z.length ≤ 32
def othY (v W : List UInt8) (n : Nat) (z : List Int) : List UInt8 := (Gf.oth (xsL n z) (Gf.sumW v W)).map (·.2)
theorem Chg.reg {v W C : List UInt8} {n L : Nat} {z : List Int} {H : List Nat} (h : Chg v W n z H) (hrf : RF (forL (synL W) (Gf.locL (xsL n z))) C L) :
    L = H.length ∧ ∀ j, co C j = co (Gf.locL (othY v W n z)) j := by
  have hvw : v.length = W.length := by rw [h.lv, h.lw]
  have hdl : (Gf.sumW v W).length = n := by simp [Gf.sumW, h.lv, h.lw]
  have hel : (xsL n z).length = z.length := by simp [xsL]
  have hfl := for_len (synL W) n z
  have h32 := h.ok.2.2
  have hle := Gf.oth_le (xsL n z) (Gf.sumW v W) (by rw [hdl]; exact h.hn) H fun p hp hc hx => by
    rw [hdl] at hp hx
    refine h.all p hp ((sum_ne hvw p).1 hc) fun hm => hx ((mem_xsL h.hn hp h.ok.1).2 hm)
  have hge := Gf.oth_ge (xsL n z) (Gf.sumW v W) (by rw [hdl]; exact h.hn) H h.nd fun p hp => by
    obtain ⟨h1, h2, h3⟩ := h.mem p hp
    rw [hdl]
    exact ⟨h1, (sum_ne hvw p).2 h2, fun hm => h3 ((mem_xsL h.hn h1 h.ok.1).1 hm)⟩
  have hfew := h.few
  have hrun := hrf.run
  have hlst := hrf.least
  rw [hfl] at hrun hlst
  have := Gf.oth_reg (xsL n z) (Gf.sumW v W) (synL W) (Gf.locL (xsL n z)) _ C L (32 - z.length) (by rw [hdl]; exact h.hn) (fun _ => rfl) (fun j hj => by
      rw [synL, co_tab _ _ _ hj, Gf.hv_sum _ _ _ hvw, h.code j hj, UInt8.zero_xor]) (by rw [hel]; omega) (fun i hi => by
      rw [co_for _ _ _ (by rw [hfl]; exact hi), loc_tr, loc_len, Nat.add_sub_cancel, hel]) (by omega) hrun hlst hrf.len
  exact ⟨by omega, this.2⟩
theorem Chg.len {v W C : List UInt8} {n L : Nat} {z : List Int} {H : List Nat} (h : Chg v W n z H) (hrf : RF (forL (synL W) (Gf.locL (xsL n z))) C L) : (tr C).length = L + 1 := by
  obtain ⟨h1, h2⟩ := h.reg hrf
  have e : tr C = Gf.locL (othY v W n z) := by
    rw [← Gf.tr_loc (othY v W n z) (Gf.oth_ne _ _)]
    exact tr_congr h2
  have h3 := hrf.len
  have h4 := tr_le C
  have hvw : v.length = W.length := by rw [h.lv, h.lw]
  have hdl : (Gf.sumW v W).length = n := by simp [Gf.sumW, h.lv, h.lw]
  have hge := Gf.oth_ge (xsL n z) (Gf.sumW v W) (by rw [hdl]; exact h.hn) H h.nd fun p hp => by
    obtain ⟨h1, h2, h3⟩ := h.mem p hp
    rw [hdl]
    exact ⟨h1, (sum_ne hvw p).2 h2, fun hm => h3 ((mem_xsL h.hn h1 h.ok.1).1 hm)⟩
  have h5 : (tr C).length = (othY v W n z).length + 1 := by rw [e, Gf.locL_length]
  have h6 : (othY v W n z).length = (Gf.oth (xsL n z) (Gf.sumW v W)).length := by simp [othY]
  omega
/-- which values' inverses are roots of the errata locator -/
theorem Chg.root {v W C : List UInt8} {n L : Nat} {z : List Int} {H : List Nat} (h : Chg v W n z H) (hrf : RF (forL (synL W) (Gf.locL (xsL n z))) C L) (p : Nat) (hp : p < n) (y : UInt8) (hy : Gf.gm (Gf.al (n - 1 - p)) y = 1) :
    evL (ertL C n z) y = 0 ↔ ((p : Int) ∈ z ∨ p ∈ H) := by
  obtain ⟨h1, h2⟩ := h.reg hrf
  have hvw : v.length = W.length := by rw [h.lv, h.lw]
  have hdl : (Gf.sumW v W).length = n := by simp [Gf.sumW, h.lv, h.lw]
  have hz : ∀ ys : List UInt8, evL (Gf.locL ys) y = 0 ↔ Gf.al (n - 1 - p) ∈ ys := fun ys => by
    rw [← Gf.hv_locL, Gf.hv_ev _ _ _ hy (by rw [Gf.locL_length]; omega)]
    rw [Gf.gm_eq_zero _ _ (Gf.px_ne (Gf.al_ne _) _)]
  have e1 : evL (tr C) y = evL (Gf.locL (othY v W n z)) y := by
    rw [evL_tr]; exact evL_congr h2 y
  unfold ertL
  rw [evL_tr, evL_mul, e1]
  have e2 : Gf.gm (evL (Gf.locL (othY v W n z)) y) (evL (Gf.locL (xsL n z)) y) = 0 ↔ evL (Gf.locL (othY v W n z)) y = 0 ∨ evL (Gf.locL (xsL n z)) y = 0 := by
    constructor
    · intro h
      by_cases h0 : evL (Gf.locL (othY v W n z)) y = 0
      · exact .inl h0
      · exact .inr ((Gf.gm_eq_zero _ _ h0).1 h)
    · rintro (h | h)
      · rw [h, Gf.zero_gm]
      · rw [h, Gf.gm_zero]
  rw [e2, hz, hz, mem_xsL h.hn hp h.ok.1]
  have e3 : Gf.al (n - 1 - p) ∈ othY v W n z ↔ co W p ≠ co v p ∧ (p : Int) ∉ z := by
    have := Gf.mem_oth (xsL n z) (Gf.sumW v W) (by rw [hdl]; exact h.hn) p (by rw [hdl]; exact hp)
    rw [hdl] at this
    unfold othY
    rw [this, sum_ne hvw, mem_xsL h.hn hp h.ok.1]
  rw [e3]
  constructor
  · rintro (⟨h3, h4⟩ | h3)
    · exact .inr (h.all p hp h3 h4)
    · exact .inl h3
  · rintro (h3 | h3)
    · exact .inr h3
    · exact .inl (h.mem p h3).2
/-- without erased places: the evaluator's degree is less than the errata locator's, and it is nothing just if nothing was changed -/
theorem ert_nil (C : List UInt8) (n : Nat) : ertL C n [] = tr C := by
  unfold ertL
  refine (tr_congr fun i => ?_).trans (tr_tr C)
  rw [co_mulL']
  cases i with
  | zero =>
    show (0 : UInt8) ^^^ Gf.gm (co (tr C) 0) (co [1] 0) = _
    rw [show co [1] 0 = 1 from rfl, Gf.gm_one, UInt8.zero_xor]
  | succ i =>
    show Gf.sm _ (i + 1) ^^^ Gf.gm (co (tr C) (i + 1)) (co [1] (i + 1 - (i + 1))) = _
    rw [Nat.sub_self, show co [1] 0 = 1 from rfl, Gf.gm_one, Gf.sm_zero fun j hj => by
      rw [show co (Gf.locL (xsL n [])) (i + 1 - j) = 0 from co_ge (by show 1 ≤ _; omega), Gf.gm_zero], UInt8.zero_xor]
theorem for_nil (s : List UInt8) (n i : Nat) (h : i < 32) : co (forL s (Gf.locL (xsL n []))) i = co s i := by
  rw [co_for _ _ _ (by rw [for_len]; simpa using h), loc_tr, loc_len, co_mulL_comm, co_mulL']
  show Gf.sm (fun j => Gf.gm (co [1] j) (co s (0 + i - j))) (0 + i + 1) = _
  rw [Gf.sm_left, show co [1] 0 = 1 from rfl, Gf.one_gm, Nat.sub_zero, Nat.zero_add, Gf.sm_zero fun j _ => by rw [show co [1] (j + 1) = 0 from co_ge (by simp), Gf.zero_gm], UInt8.xor_zero]
theorem eva_co (s C : List UInt8) (n k : Nat) : co (evaL s C n []) k = if k < 32 then co (mulL s C) k else 0 := by
  unfold evaL
  rw [co_tr, ert_nil]
  have e : ∀ i, co (tr (mulL (tr s) (tr C))) i = co (mulL s C) i := fun i => by
    rw [co_tr]; exact mulL_congr (co_tr s) (co_tr C) i
  rw [co_take]
  by_cases h : k < 32
  · rw [if_pos h]
    split
    · exact e k
    · rename_i h2
      have hlow : lowN 32 (tr (mulL (tr s) (tr C))).length = (if ((tr (mulL (tr s) (tr C))).length : Int) < 32 then (tr (mulL (tr s) (tr C))).length else 32) := by
        unfold lowN; rw [if_neg (by decide)]; rfl
      rw [hlow] at h2
      rw [← e k]
      split at h2
      · exact (co_ge (by omega)).symm
      · omega
  · rw [if_neg h]
    split
    · rename_i h2
      have := lowN_le 32 (tr (mulL (tr s) (tr C))).length
      have hlow : lowN 32 (tr (mulL (tr s) (tr C))).length ≤ 32 := by
        unfold lowN; rw [if_neg (by decide)]; split <;> omega
      omega
    · rfl
theorem eva_deg {s C : List UInt8} {n L : Nat} (h : RF (forL s (Gf.locL (xsL n []))) C L) : (evaL s C n []).length ≤ L := by
  have hl : (forL s (Gf.locL (xsL n []))).length = 32 := for_len s n []
  have hz : ∀ k, L ≤ k → co (evaL s C n []) k = 0 := fun k hk => by
    rw [eva_co]
    split
    · rename_i h32
      have h1 := h.run.run k hk (by rw [hl]; exact h32)
      rw [← h1, co_mulL_comm, co_mulL']
      unfold Gf.dis
      rw [Gf.sm_more (n := L + 1) (m := k + 1) (by omega) (fun j hj => by rw [co_ge (by have := h.len; omega), Gf.zero_gm])]
      exact Gf.sm_congr fun j hj => by rw [for_nil s n _ (by omega)]
    · rfl
  have e : tr (evaL s C n []) = evaL s C n [] := by unfold evaL; exact tr_tr _
  rw [← e, tr_length]
  by_cases hc : tl (evaL s C n []) (evaL s C n []).length ≤ L
  · exact hc
  · exact absurd (hz _ (by omega)) (tl_top (evaL s C n []) (evaL s C n []).length (by omega))
theorem eva_nil {s C : List UInt8} {n L : Nat} (h : RF (forL s (Gf.locL (xsL n []))) C L) : (evaL s C n []).length = 0 ↔ L = 0 := by
  constructor
  · intro h0
    have hl : (forL s (Gf.locL (xsL n []))).length = 32 := for_len s n []
    have hz : ∀ k, k < 32 → co (mulL s C) k = 0 := fun k hk => by
      have := eva_co s C n k
      rw [if_pos hk, co_ge (by omega)] at this
      exact this.symm
    have hs : ∀ k, k < 32 → co s k = 0 := fun k => by
      induction k using Nat.strongRecOn with
      | ind k ih =>
        intro hk
        have h1 := hz k hk
        rw [co_mulL'] at h1
        have h2 : Gf.sm (fun i => Gf.gm (co s i) (co C (k - i))) (k + 1) = Gf.sm (fun i => Gf.gm (co s i) (co C (k - i))) k ^^^ Gf.gm (co s k) (co C (k - k)) := rfl
        rw [h2, Gf.sm_zero (fun i hi => by rw [ih i hi (by omega), Gf.zero_gm]), Nat.sub_self, h.run.one, Gf.gm_one, UInt8.zero_xor] at h1
        exact h1
    exact (zero_reg h fun i hi => by rw [for_nil s n i (by rw [hl] at hi; exact hi), hs i (by rw [hl] at hi; exact hi)]).1
  · intro h0
    have := eva_deg h
    omega
end Go.Proofs.YtgchfijeiggimaaDoor
