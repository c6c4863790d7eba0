/- Iterators over digests: slices.Values, the code's digests, slices.Backward. The code's roots: whole trees on a stack, joined; Root, Over, Leaves. -/
import Derived.Test.YtfccpfmgkpcnoaaDoorTg
import Derived.Test.YtfccpfmgkpcnoaaDoorRfa
import Derived.Test.YtfccpfmgkpcnoaaDoorMu
namespace Go.Proofs.YtfccpfmgkpcnoaaDoor
open Go.RowKit
set_option linter.unusedVariables false
set_option linter.unusedSimpArgs false
attribute [local go_sem] Oper.semAt_some
theorem dg_store_run {T : TypeId} (hT : dgI T) {W : World} {g : Nat} {old D : Array Value} (hg : W.heap[g]? = some (.cells old T (0, 0))) (ho : old.size = 32) (hD : D.size = 32) (h1 : D.all (·.oneCell') = true) :
    (Instr.storeAt T (.pointer (some ⟨g, 0, none⟩)) (.agg D)).run Tryd.prog W = .ok () (W.setRow g D) := by
  obtain ⟨i, hi, hz, hs, hb⟩ := dgI_parts hT
  have := run_storeVar_row (P := Tryd.prog) W g T T old D hg (by rw [hi]; simp [hs, hD]) (by rw [ho, hD]) h1
  simp only [Instr.storeAt, Instr.sureAddr, Sem.run_bind, Sem.run_pure, Result.andThen_ok, this]
theorem dg_loadrow_run {T : TypeId} (hu : Tryd.prog.underlying T = some (.array 32 5)) (hT : dgI T) {W : World} {g : Nat} {D : Array Value} {U : TypeId} (hg : W.heap[g]? = some (.cells D U (0, 0))) (hD : D.size = 32) :
    (Instr.loadAt T (.pointer (some ⟨g, 0, none⟩))).run Tryd.prog W = .ok (.agg D) W := by
  obtain ⟨i, hi, hz, hs, hb⟩ := dgI_parts hT
  simp only [Instr.loadAt, Instr.sureAddr, Sem.run_bind, Sem.run_pure, Result.andThen_ok, run_loadVar_row W g U T D (0, 0) _ hg hu rfl (by rw [hi]; simp [hs, hD])]
/-- an iterator over digests -/
def Gives (k : Nat) (lb : Array Value) (ds : List (List UInt8)) (Pre : World → Prop) : Prop :=
  ∀ (l : Nat) (I : Nat → World → Prop) (B Bx : World → Prop) (w : World), (∀ i X, I i X → Pre X) → (∀ i X X', I i X → Below X.heap.size X X' → I i X') → (∀ X X', B X → KeepsOthers X X' → B X') →
    (∀ i X, I i X → B X → i < ds.length → YieldAt Fence.wide 0 Tryd.prog l #[.agg (bytesV (bi ds i)).toArray] X fun e X' => (e = .returned (.bool true) ∧ I (i + 1) X' ∧ B X') ∨ (e = .returned (.bool false) ∧ Bx X')) →
    I 0 w → B w → Calls Tryd.prog k (#[.func (.yield l) #[] #[]] ++ lb) w fun e X => (∃ v, e = .returned v) ∧ ((I ds.length X ∧ B X) ∨ Bx X)
set_option maxRecDepth 100000 in
theorem values_of (Z : Array Value) (hZ : Z.size = 32) (hzs : ∀ w, Sem.run Tryd.prog (zeroValue 41) w = .ok (.agg Z) w) (ds : List (List UInt8)) (o : Option Addr) (c Q : Nat) :
    Gives 66 #[.pointer (some ⟨Q, 0, none⟩)] ds (fun X => Boxed X Q 32 (.slice o ds.length c) ∧ DgIs X o ds c) := by
  intro l I B Bx w hI hA hBk hturn h0 hB
  refine (callsIn_wide (n := 0)).1 (callsIn_of_wp Tryd.func66 rfl trivial ?_ rfl)
  simp only [Tryd.ntmps66, List.size_toArray, List.length_cons, List.length_nil, Nat.reduceAdd, Nat.reduceSub, Array.replicate_succ, Array.replicate_zero, List.push_toArray, List.append_toArray, List.nil_append, List.cons_append]
  have hq := (hI _ _ h0).1.cell
  have hr0 := (hI _ _ h0).2
  have hn : ds.length ≤ 9223372036854775807 := by
    have h1 := hr0.le
    have h2 := hr0.cap
    unfold maxLen at h2
    omega
  obtain ⟨n, hnn⟩ : ∃ n, ds.length = n := ⟨_, rfl⟩
  have HN := Lib.hid hnn
  have HI := Lib.hid hI
  have HT := Lib.hid hturn
  have HA := Lib.hid hA
  have HBK := Lib.hid hBk
  have HZ := Lib.hid hZ
  rw [hnn] at hq hn
  clear hr0 hnn hI hturn hA hBk hZ
  gi_wp2
  gi_loopw [4, 7] (fun _ p wr => ∃ k : Nat, k ≤ n ∧ p = .int .i64 (k : Int) ∧ I k wr ∧ B wr) (fun _ p wr => n - (intOf p).toNat)
  case atStart => exact ⟨0, Nat.zero_le _, rfl, h0, hB⟩
  case round =>
    obtain ⟨k, hk, rfl, hi, hb⟩ := hrel
    by_cases hlt : k < n
    · have hr := (HI.out _ _ hi).2
      have hkd : k < ds.length := by rw [HN.out]; exact hlt
      obtain ⟨b1, off1, rfl, hb1, hrng⟩ := hr.at_ k hkd
      have hd := hr.all.at_ hkd
      have hm := hr.cap
      have hle := hr.le
      rw [HN.out] at hle
      unfold maxLen at hm
      have hrs : (Tryd.prog.info? 41).map (·.size) = some (bytesV (bi ds k)).length := by rw [dg_info]; simp [hd]
      obtain ⟨D, hD⟩ : ∃ D, (bytesV (bi ds k)).toArray = D := ⟨_, rfl⟩
      have HDS : Hid ((Tryd.prog.info? 41).map (·.size) = some D.size) := Lib.hid (by rw [dg_info, ← hD]; simp [hd])
      have HDO : Hid (D.all (·.oneCell') = true) := Lib.hid (by rw [← hD]; exact all_oneCell_toArray (bytesV_one _))
      have HDZ : Hid (Z.size = D.size) := Lib.hid (by rw [HZ.out, ← hD]; simp [hd])
      have hbw : Below wr.heap.size wr ((wr.alloc (.cells Z 41)).setRow wr.heap.size D) := (new12 wr _).trans (below_row (Nat.le_refl _))
      have HROW : Hid (((wr.alloc (.cells Z 41)).setRow wr.heap.size D).heap[wr.heap.size]? = some (.cells D 41 (0, 0))) := Lib.hid (setRow_heap (wr.alloc (.cells Z 41)) wr.heap.size Z D 41 (0, 0) (World.alloc_heap_new wr _))
      have hi2 := HA.out _ _ _ hi hbw
      have hb2 := HBK.out _ _ hb (keeps_below hbw)
      have ht := HT.out k _ hi2 hb2 hkd
      rw [hD] at ht
      obtain ⟨fn, tmps, assign, body, hy, hR⟩ := ht
      have HRNG := Lib.hid hrng
      have HRS := Lib.hid hrs
      have HD := Lib.hid hD
      clear hr hrng hbw hi2 hb2 hm hD hd hrs
      gi_upto_region 2 with fail
      refine wpIn_region_lit ?_
      (refine wpListIn_plain rfl (fun K hK => Rf.oper_wide ?_); go_simp; refine hK _ _ ?_; clear hK K)
      refine wpListIn_plain rfl (fun K hK => Rf.oper_wide (wp_load_mid 41 (.tmp 9) rfl b1 (off1 + k * 32) rfl (bytesV (bi ds k)) _ HRNG.out dg_under rfl HRS.out (hK _ _ ?_)))
      clear hK K
      rw [HD.out]
      (refine wpListIn_plain rfl (fun K hK => Rf.oper_wide ?_); go_simp; refine hK _ _ ?_; clear hK K)
      refine wpListIn_plain rfl (fun K hK => Rf.oper_wide (wp_store_row 41 (.tmp 4) (.tmp 10) rfl wr.heap.size D rfl rfl 41 Z (World.alloc_heap_new wr _) HDS.out HDZ.out HDO.out (hK _ _ ?_)))
      clear hK K
      obtain ⟨X2, hX2⟩ : ∃ X2, (wr.alloc (.cells Z 41)).setRow wr.heap.size D = X2 := ⟨_, rfl⟩
      rw [hX2] at HROW hy hR ⊢
      clear hX2
      refine wpListIn_nil ?_
      gi_upto_region 3 with fail
      refine wpIn_region_lit ?_
      refine wpListIn_plain rfl (fun K hK => Rf.oper_wide ?_)
      go_simp
      refine hK _ _ ?_
      clear hK K
      refine wpListIn_plain rfl (fun K hK => Rf.oper_wide (wp_load_row 41 (.tmp 4) rfl wr.heap.size rfl 41 D (0, 0) _ HROW.out dg_under rfl HDS.out (hK _ _ ?_)))
      clear hK K
      gi_wp2
      refine ⟨rfl, hR.mono ?_⟩
      rintro e W3 (⟨rfl, hi3, hb3⟩ | ⟨rfl, hx3⟩)
      · gi_wp2
        go_roundw
        case rel => exact ⟨k + 1, by omega, by go_num, hi3, hb3⟩
        case measure => simp [intOf]; omega
      · gi_wp2
        refine bodyPost_ret (results_none rfl _ _ _) rfl ?_
        exact ⟨⟨_, rfl⟩, .inr hx3⟩
    · obtain rfl : k = n := by omega
      gi_wp2
      go_end0
      exact ⟨⟨_, rfl⟩, .inl ⟨by rw [HN.out]; exact hi, hb⟩⟩
theorem values_gives (ds : List (List UInt8)) (o : Option Addr) (c Q : Nat) :
    Gives 66 #[.pointer (some ⟨Q, 0, none⟩)] ds (fun X => Boxed X Q 32 (.slice o ds.length c) ∧ DgIs X o ds c) :=
  values_of _ (by simp) dg_zero ds o c Q
theorem mvalues_any (o : Option Addr) (n c : Nat) (w : World) :
    Calls Tryd.prog 53 #[.slice o n c] w fun e w' => e = .returned (.func (.func 66) #[] #[.pointer (some ⟨w.heap.size, 0, none⟩)]) ∧ w' = w.alloc (.cells #[.slice o n c] 32) := by
  have hmf := @makes Tryd.prog
  go_enter Tryd.func53, Tryd.ntmps53
  go_wp2
  go_ret
  exact ⟨rfl, rfl⟩
theorem mdigests_any (o : Option Addr) (n c : Nat) (w : World) :
    Calls Tryd.prog 49 #[.slice o n c] w fun e w' => e = .returned (.func (.func 64) #[] #[.pointer (some ⟨w.heap.size, 0, none⟩)]) ∧ w' = w.alloc (.cells #[.slice o n c] 22) := by
  have hmf := @makes Tryd.prog
  go_enter Tryd.func49, Tryd.ntmps49
  go_wp2
  go_ret
  exact ⟨rfl, rfl⟩
theorem mback_any (o : Option Addr) (n c : Nat) (w : World) :
    Calls Tryd.prog 39 #[.slice o n c] w fun e w' => e = .returned (.func (.func 54) #[] #[.pointer (some ⟨w.heap.size, 0, none⟩)]) ∧ w' = w.alloc (.cells #[.slice o n c] 32) := by
  have hmf := @makes Tryd.prog
  go_enter Tryd.func39, Tryd.ntmps39
  go_wp2
  go_ret
  exact ⟨rfl, rfl⟩
theorem bi_lf (bs : List (List UInt8)) (i : Nat) (h : i < bs.length) : bi (bs.map Da.lf) i = Da.lf (bi bs i) := by simp [bi, h]
set_option maxRecDepth 100000 in
theorem digests_gives (bs : List (List UInt8)) (o : Option Addr) (c Q : Nat) (hl : ∀ i, i < bs.length → (bi bs i).length ≤ 800000) :
    Gives 64 #[.pointer (some ⟨Q, 0, none⟩)] (bs.map Da.lf) (fun X => Boxed X Q 22 (.slice o bs.length c) ∧ RbIs X o bs c ∧ Cds X) := by
  intro l I B Bx w hI hA hBk hturn h0 hB
  refine (callsIn_wide (n := 0)).1 (callsIn_of_wp Tryd.func64 rfl trivial ?_ rfl)
  simp only [Tryd.ntmps64, List.size_toArray, List.length_cons, List.length_nil, Nat.reduceAdd, Nat.reduceSub, Array.replicate_succ, Array.replicate_zero, List.push_toArray, List.append_toArray, List.nil_append, List.cons_append]
  have hq := (hI _ _ h0).1.cell
  have hr0 := (hI _ _ h0).2.1
  have hn : bs.length ≤ 9223372036854775807 := by
    have h1 := hr0.le.1
    have h2 := hr0.le.2
    unfold maxLen at h2
    omega
  rw [List.length_map] at hturn ⊢
  obtain ⟨n, hnn⟩ : ∃ n, bs.length = n := ⟨_, rfl⟩
  rw [hnn] at hturn ⊢
  have HN := Lib.hid hnn
  have HI := Lib.hid hI
  have HT := Lib.hid hturn
  have HA := Lib.hid hA
  have HBK := Lib.hid hBk
  have HL := Lib.hid hl
  rw [hnn] at hq hn
  clear hr0 hnn hI hturn hA hBk hl
  gi_wp2
  gi_loopw [4, 7] (fun _ p wr => ∃ k : Nat, k ≤ n ∧ p = .int .i64 (k : Int) ∧ I k wr ∧ B wr) (fun _ p wr => n - (intOf p).toNat)
  case atStart => exact ⟨0, Nat.zero_le _, rfl, h0, hB⟩
  case round =>
    obtain ⟨k, hk, rfl, hi, hb⟩ := hrel
    by_cases hlt : k < n
    · have hr := (HI.out _ _ hi).2.1
      have hkd : k < bs.length := by rw [HN.out]; exact hlt
      obtain ⟨b1, off1, p1, q1, rfl, hb1, hcell, hrow⟩ := hr.cell k hkd
      have hm := hr.le.2
      have hle := hr.le.1
      rw [HN.out] at hle
      unfold maxLen at hm
      have LE := Lib.hid (tleaf_any (bi bs k) p1 q1 wr hrow (HI.out _ _ hi).2.2 (HL.out k hkd))
      obtain ⟨D, hD⟩ : ∃ D, (bytesV (Da.lf (bi bs k))).toArray = D := ⟨_, rfl⟩
      rw [hD] at LE
      have HD := Lib.hid hD
      have HI1 := Lib.hid hi
      have HB1 := Lib.hid hb
      have HBL := Lib.hid (bi_lf bs k hkd)
      obtain ⟨L, hL⟩ : ∃ L, (bi bs k).length = L := ⟨_, rfl⟩
      rw [hL] at LE hcell
      clear hr hm hD hrow hi hb hL hkd
      gi_upto_region 3 with fail
      refine wpIn_region_lit ?_
      (refine wpListIn_plain rfl (fun K hK => Rf.oper_wide ?_); go_simp; refine hK _ _ ?_; clear hK K)
      (refine wpListIn_plain rfl (fun K hK => Rf.oper_wide ?_); go_simp; refine hK _ _ ?_; clear hK K)
      (refine wpListIn_plain rfl (fun K hK => Rf.oper_wide ?_); go_simp)
      refine LE.out.mono ?_
      rintro e X2 ⟨rfl, hbw⟩
      refine hK _ _ ?_
      clear hK K LE
      have hi2 := HA.out _ _ _ HI1.out hbw
      have hb2 := HBK.out _ _ HB1.out (keeps_below hbw)
      have ht := HT.out k _ hi2 hb2 hlt
      rw [HBL.out, HD.out] at ht
      obtain ⟨fn, tmps, assign, body, hy, hR⟩ := ht
      clear hbw hi2 hb2
      gi_wp2
      refine ⟨rfl, hR.mono ?_⟩
      rintro e W3 (⟨rfl, hi3, hb3⟩ | ⟨rfl, hx3⟩)
      · gi_wp2
        go_roundw
        case rel => exact ⟨k + 1, by omega, by go_num, hi3, hb3⟩
        case measure => simp [intOf]; omega
      · gi_wp2
        refine bodyPost_ret (results_none rfl _ _ _) rfl ?_
        exact ⟨⟨_, rfl⟩, .inr hx3⟩
    · obtain rfl : k = n := by omega
      gi_wp2
      go_end0
      exact ⟨⟨_, rfl⟩, .inl ⟨hi, hb⟩⟩
/-- an iterator over digests with their places, the last one first -/
def Backs (k : Nat) (lb : Array Value) (ds : List (List UInt8)) (Pre : World → Prop) : Prop :=
  ∀ (l : Nat) (I : Nat → World → Prop) (B Bx : World → Prop) (w : World), (∀ i X, I i X → Pre X) → (∀ i X X', I i X → Below X.heap.size X X' → I i X') → (∀ X X', B X → KeepsOthers X X' → B X') →
    (∀ i X, I i X → B X → i < ds.length → YieldAt Fence.wide 0 Tryd.prog l #[.int .i64 ((ds.length - 1 - i : Nat) : Int), .agg (bytesV (bi ds (ds.length - 1 - i))).toArray] X fun e X' => (e = .returned (.bool true) ∧ I (i + 1) X' ∧ B X') ∨ (e = .returned (.bool false) ∧ Bx X')) →
    I 0 w → B w → Calls Tryd.prog k (#[.func (.yield l) #[] #[]] ++ lb) w fun e X => (∃ v, e = .returned v) ∧ ((I ds.length X ∧ B X) ∨ Bx X)
set_option maxRecDepth 100000 in
theorem backs_any (ds : List (List UInt8)) (o : Option Addr) (c Q : Nat) :
    Backs 54 #[.pointer (some ⟨Q, 0, none⟩)] ds (fun X => Boxed X Q 32 (.slice o ds.length c) ∧ DgIs X o ds c) := by
  intro l I B Bx w hI hA hBk hturn h0 hB
  refine (callsIn_wide (n := 0)).1 (callsIn_of_wp Tryd.func54 rfl trivial ?_ rfl)
  simp only [Tryd.ntmps54, List.size_toArray, List.length_cons, List.length_nil, Nat.reduceAdd, Nat.reduceSub, Array.replicate_succ, Array.replicate_zero, List.push_toArray, List.append_toArray, List.nil_append, List.cons_append]
  have hq := (hI _ _ h0).1.cell
  have hr0 := (hI _ _ h0).2
  have hn : ds.length ≤ 9223372036854775807 := by
    have h1 := hr0.le
    have h2 := hr0.cap
    unfold maxLen at h2
    omega
  obtain ⟨n, hnn⟩ : ∃ n, ds.length = n := ⟨_, rfl⟩
  rw [hnn] at hturn ⊢
  have HN := Lib.hid hnn
  have HI := Lib.hid hI
  have HT := Lib.hid hturn
  have HA := Lib.hid hA
  have HBK := Lib.hid hBk
  rw [hnn] at hq hn
  clear hr0 hnn hI hturn hA hBk
  gi_wp2
  gi_loopw [3] (fun p wr => ∃ k : Nat, k ≤ n ∧ p = .int .i64 ((n : Int) - 1 - (k : Int)) ∧ I k wr ∧ B wr) (fun p wr => (intOf p + 1).toNat)
  case atStart => exact ⟨0, Nat.zero_le _, by go_num, h0, hB⟩
  case round =>
    obtain ⟨k, hk, rfl, hi, hb⟩ := hrel
    by_cases hlt : k < n
    · have hq2 := (HI.out _ _ hi).1.cell
      have hr := (HI.out _ _ hi).2
      obtain ⟨i, hie⟩ : ∃ i, i = n - 1 - k := ⟨_, rfl⟩
      have hkd : i < ds.length := by rw [HN.out]; omega
      obtain ⟨b1, off1, rfl, hb1, hrng⟩ := hr.at_ i hkd
      have hd := hr.all.at_ hkd
      have hm := hr.cap
      have hle := hr.le
      rw [HN.out] at hle hq2
      unfold maxLen at hm
      have HRS : Hid ((Tryd.prog.info? 41).map (·.size) = some (bytesV (bi ds i)).length) := Lib.hid (by rw [dg_info]; simp [hd])
      have ht := HT.out k _ hi hb hlt
      rw [← hie] at ht
      obtain ⟨D, hD⟩ : ∃ D, (bytesV (bi ds i)).toArray = D := ⟨_, rfl⟩
      rw [hD] at ht
      obtain ⟨fn, tmps, assign, body, hy, hR⟩ := ht
      have HRNG := Lib.hid hrng
      have HD := Lib.hid hD
      have hin : ((n : Int) - 1 - (k : Int)) = (i : Int) := by omega
      rw [hin]
      have hin2 : i < n := by omega
      have HIN := Lib.hid hin
      clear hr hrng hm hD hd hi hb hin hie hkd
      gi_upto_region 3 with fail
      refine wpIn_region_lit ?_
      (refine wpListIn_plain rfl (fun K hK => Rf.oper_wide ?_); go_simp; refine hK _ _ ?_; clear hK K)
      (refine wpListIn_plain rfl (fun K hK => Rf.oper_wide ?_); go_simp; refine hK _ _ ?_; clear hK K)
      (refine wpListIn_plain rfl (fun K hK => Rf.oper_wide ?_); go_simp; refine hK _ _ ?_; clear hK K)
      (refine wpListIn_plain rfl (fun K hK => Rf.oper_wide ?_); go_simp; refine hK _ _ ?_; clear hK K)
      (refine wpListIn_plain rfl (fun K hK => Rf.oper_wide ?_); go_simp; refine hK _ _ ?_; clear hK K)
      refine wpListIn_plain rfl (fun K hK => Rf.oper_wide (wp_load_mid 41 (.tmp 15) rfl b1 (off1 + i * 32) rfl (bytesV (bi ds i)) _ HRNG.out dg_under rfl HRS.out (hK _ _ ?_)))
      clear hK K
      rw [HD.out]
      gi_wp2
      refine ⟨rfl, hR.mono ?_⟩
      rintro e W3 (⟨rfl, hi3, hb3⟩ | ⟨rfl, hx3⟩)
      · gi_wp2
        go_roundw
        case rel => exact ⟨k + 1, by omega, by have := HIN.out; go_num, hi3, hb3⟩
        case measure => simp [intOf] <;> omega
      · gi_wp2
        refine bodyPost_ret (results_none rfl _ _ _) rfl ?_
        exact ⟨⟨_, rfl⟩, .inr hx3⟩
    · obtain rfl : k = n := by omega
      have hd : decide ((k : Int) - 1 - (k : Int) ≥ 0) = false := by simp; omega
      gi_wp2
      go_end0
      exact ⟨⟨_, rfl⟩, .inl ⟨hi, hb⟩⟩
end Go.Proofs.YtfccpfmgkpcnoaaDoor
namespace Go.Proofs.YtfccpfmgkpcnoaaDoor.Da
/-- roots joined: the last one, with those ahead of it, from the last on -/
def jf (us : List (List UInt8)) (d : List UInt8) (k : Nat) : List UInt8 := (us.reverse.take k).foldl (fun x d => nd d x) d
def jw (ws : List (List UInt8)) : List UInt8 := match ws.reverse with
  | [] => sha []
  | d :: r => r.foldl (fun x d => nd d x) d
theorem jf_zero (us : List (List UInt8)) (d : List UInt8) : jf us d 0 = d := rfl
theorem jf_step (us : List (List UInt8)) (d : List UInt8) (k : Nat) (h : k < us.length) : jf us d (k + 1) = nd (bi us (us.length - 1 - k)) (jf us d k) := by
  unfold jf
  rw [List.take_add_one, List.getElem?_reverse h, List.foldl_append]
  have e : us[us.length - 1 - k]? = some (bi us (us.length - 1 - k)) := by
    have : us.length - 1 - k < us.length := by omega
    simp [bi, this]
  rw [e]
  rfl
theorem jf_length {us : List (List UInt8)} {d : List UInt8} (hd : d.length = 32) (k : Nat) (h : k ≤ us.length) : (jf us d k).length = 32 := by
  cases k with
  | zero => exact hd
  | succ k => rw [jf_step us d k (by omega)]; exact nd_length _ _
theorem jf_all (ws : List (List UInt8)) (h : 0 < ws.length) : jf (ws.take (ws.length - 1)) (bi ws (ws.length - 1)) (ws.length - 1) = jw ws := by
  rcases List.eq_nil_or_concat ws with rfl | ⟨us, d, rfl⟩
  · simp at h
  · unfold jf jw
    simp [bi]
    rw [List.take_of_length_le (by simp), List.foldl_reverse]
theorem jw_stack {c : Nat} {rs : List (List (List UInt8))} (h : Wt 0 c rs) : jw (rs.reverse.map ov) = ov rs.reverse.flatten := by
  unfold jw
  rw [← List.map_reverse, List.reverse_reverse]
  cases rs with
  | nil => simp [ov_nil]
  | cons s r =>
    rw [List.map_cons]
    show (r.map ov).foldl (fun x d => nd d x) (ov s) = _
    rw [List.foldl_map]
    exact h.top s r rfl
end Go.Proofs.YtfccpfmgkpcnoaaDoor.Da
namespace Go.Proofs.YtfccpfmgkpcnoaaDoor
open Go.RowKit
set_option linter.unusedVariables false
set_option linter.unusedSimpArgs false
attribute [local go_sem] Oper.semAt_some
theorem keeps_row {W : World} {g : Nat} {old F : Array Value} {T : TypeId} {f : Nat × Nat} (h : W.heap[g]? = some (.cells old T f)) : KeepsOthers W (W.setRow g F) :=
  KeepsOthers.of_grownBy (grown_row F) fun j o e ho => by cases e; rw [h] at ho; cases ho; rfl
theorem Arr.nc {B : Nat} {X X' : World} {b : Nat} {T : TypeId} {xs : List Value} (h : Arr X b T xs) (k : Rf.NC B X X') : Arr X' b T xs := k.cells h
theorem boxed_nc12 {B : Nat} {X X' : World} {b : Nat} {T : TypeId} {v : Value} (h : Boxed X b T v) (k : Rf.NC B X X') : Boxed X' b T v := k.cells h
theorem Arr.row_ne {W : World} {b g : Nat} {T : TypeId} {xs : List Value} {F : Array Value} (h : Arr W b T xs) (hne : b ≠ g) : Arr (W.setRow g F) b T xs := by
  unfold Arr at *
  rw [setRow_other W g b F hne]
  exact h
theorem Arr.row_same {W : World} {g : Nat} {T : TypeId} {xs ys : List Value} (h : Arr W g T xs) : Arr (W.setRow g ys.toArray) g T ys := setRow_heap _ _ _ _ _ _ h
theorem boxed_row_ne {W : World} {b g : Nat} {T : TypeId} {v : Value} {F : Array Value} (h : Boxed W b T v) (hne : b ≠ g) : Boxed (W.setRow g F) b T v := by
  unfold Boxed at *
  rw [setRow_other W g b F hne]
  exact h
/-- between two rounds of joined -/
structure JnI (us : List (List UInt8)) (d : List UInt8) (o : Option Addr) (c g b4 q : Nat) (w : World) (s : Nat) (X : World) : Prop where
  le : s ≤ us.length
  cur : Arr X b4 41 (bytesV (Da.jf us d s))
  res : Arr X g 41 (bytesV (List.replicate 32 0))
  box : Boxed X q 32 (.slice o us.length c)
  below : Below w.heap.size w X
theorem JnI.nc {us : List (List UInt8)} {d : List UInt8} {o : Option Addr} {c g b4 q B : Nat} {w X X' : World} {s : Nat} (h : JnI us d o c g b4 q w s X) (k : Rf.NC B X X') (hB : w.heap.size ≤ B) : JnI us d o c g b4 q w s X' :=
  ⟨h.le, h.cur.nc k, h.res.nc k, boxed_nc12 h.box k, h.below.trans (k.below hB h.below.size)⟩
theorem JnI.later {us : List (List UInt8)} {d : List UInt8} {o : Option Addr} {c g b4 q : Nat} {w X X' : World} {s : Nat} (h : JnI us d o c g b4 q w s X) (hb : Below X.heap.size X X') : JnI us d o c g b4 q w s X' :=
  ⟨h.le, h.cur.later hb h.cur.lt, h.res.later hb h.res.lt, boxed_later h.box hb, Kit.step h.below hb⟩
set_option maxRecDepth 100000 in
set_option maxHeartbeats 2000000 in
theorem tjoined_of (Z : Array Value) (hZ : Z = (bytesV (List.replicate 32 0)).toArray) (hzs : ∀ w, Sem.run Tryd.prog (zeroValue 41) w = .ok (.agg Z) w)
    (ws : List (List UInt8)) (o : Option Addr) (n c : Nat) (hn : ws.length = n) (w : World) (hR : DgIs w o ws c) (hV : Cds w) (hjl : (Da.jw ws).length = 32) :
    Calls Tryd.prog 65 #[.slice o n c] w fun e w' => e = .returned (.agg (bytesV (Da.jw ws)).toArray) ∧ Below w.heap.size w w' := by
  obtain ⟨g, hg⟩ : ∃ g, w.heap.size = g := ⟨_, rfl⟩
  obtain ⟨W1, hW1⟩ : ∃ W1, w.alloc (Obj.cells Z 41) = W1 := ⟨_, rfl⟩
  have hb1 : Below w.heap.size w W1 := by rw [← hW1]; exact new12 _ _
  have hs1 : W1.heap.size = g + 1 := by rw [← hW1, World.size_alloc, hg]
  have hA1 : Arr W1 g 41 (bytesV (List.replicate 32 0)) := by rw [← hW1, hZ, ← hg]; exact Arr.made _ _ _
  have hZs : Z.size = 32 := by rw [hZ]; simp
  obtain ⟨F, hF⟩ : ∃ F, (bytesV (Da.jw ws)).toArray = F := ⟨_, rfl⟩
  have hFs : F.size = 32 := by rw [← hF]; simp [hjl]
  have HFS : Hid ((Tryd.prog.info? 41).map (·.size) = some F.size) := Lib.hid (by rw [dg_info, hFs])
  have HFO : Hid (F.all (·.oneCell') = true) := Lib.hid (by rw [← hF]; exact all_oneCell_toArray (bytesV_one _))
  have HFZ : Hid ((bytesV (List.replicate 32 0)).toArray.size = F.size) := Lib.hid (by rw [hFs]; simp)
  have HZS := Lib.hid hZs
  have HF := Lib.hid hF
  have HR := Lib.hid hR
  have HV := Lib.hid hV
  have HW1 := Lib.hid hW1
  have HB1 := Lib.hid hb1
  have HS1 := Lib.hid hs1
  have HA1 := Lib.hid hA1
  have HG := Lib.hid hg
  have HZZ := Lib.hid hZ
  have HN := Lib.hid hn
  have hca := hR.cap
  have hcl := hR.le
  rw [hn] at hcl
  unfold maxLen at hca
  refine Rf.calls_marks Tryd.func65 rfl ?_
  simp only [Tryd.ntmps65, List.size_toArray, List.length_cons, List.length_nil, Nat.reduceAdd, Nat.reduceSub, Array.replicate_succ, Array.replicate_zero, List.push_toArray, List.append_toArray, List.nil_append, List.cons_append]
  clear hR hV hW1 hb1 hs1 hA1 hZ hF hFs hZs hg hn hjl
  rw [HF.out]
  go_upto_region 1 with fail
  rw [HW1.out, HG.out]
  by_cases h0 : n = 0
  · subst h0
    obtain rfl : ws = [] := List.eq_nil_of_length_eq_zero HN.out
    have SO := sof_any [] none 0 W1 (RbIs.empty none 0 (Nat.zero_le _) (fun _ => rfl)) (HV.out.later HB1.out) (by simp) (by simp)
    rw [show Da.sha ([] : List (List UInt8)).flatten = Da.jw [] from rfl, HF.out, List.length_nil] at SO
    have HSO := Lib.hid SO
    clear SO
    go_upto_region 2 with fail
    apply wp_region_lit
    (refine wpList_plain rfl (fun K hK => ?_); go_simp)
    refine HSO.out.mono ?_
    rintro e W2 ⟨rfl, hb2⟩
    refine hK _ _ ?_
    clear hK K HSO
    have hA2 := HA1.out.later hb2 HA1.out.lt
    have HA2 : Hid (W2.heap[g]? = some (.cells (bytesV (List.replicate 32 0)).toArray 41 (0, 0))) := Lib.hid hA2
    have HGW : Hid ((W2.setRow g F).heap[g]? = some (.cells F 41 (0, 0))) := Lib.hid (setRow_heap _ _ _ _ _ _ hA2)
    have HBW : Hid (Below w.heap.size w (W2.setRow g F)) := Lib.hid ((Kit.step HB1.out hb2).trans (below_row (Nat.le_of_eq HG.out)))
    clear hA2 hb2
    refine wpList_store_row rfl 41 (.tmp 2) (.tmp 10) rfl g F rfl rfl 41 (bytesV (List.replicate 32 0)).toArray HA2.out HFS.out HFZ.out HFO.out ?_
    go_wp2_with fail
    refine ⟨_, results_cell_row rfl _ _ g 41 F (0, 0) _ rfl HGW.out dg_under rfl HFS.out, ?_⟩
    exact ⟨rfl, HBW.out⟩
  obtain ⟨m, rfl⟩ : ∃ m, n = m + 1 := ⟨n - 1, by omega⟩
  have hd1 : decide ((((m + 1 : Nat) : Int)) = 0) = false := by simp; omega
  have hw1 : IntKind.i64.wrap (((m + 1 : Nat) : Int) - 1) = (m : Int) := by rw [IntKind.wrap_i64]; omega
  have hR1 := HR.out.later HB1.out
  obtain ⟨b1, off1, rfl, hlt1, hrng⟩ := hR1.at_ m (by rw [HN.out]; omega)
  have hdl := hR1.all.at_ (i := m) (by rw [HN.out]; omega)
  obtain ⟨d, hd⟩ : ∃ d, bi ws m = d := ⟨_, rfl⟩
  rw [hd] at hrng hdl
  have HRS : Hid ((Tryd.prog.info? 41).map (·.size) = some (bytesV d).length) := Lib.hid (by rw [dg_info]; simp [hdl])
  obtain ⟨D, hD⟩ : ∃ D, (bytesV d).toArray = D := ⟨_, rfl⟩
  have HDS : Hid ((Tryd.prog.info? 41).map (·.size) = some D.size) := Lib.hid (by rw [dg_info, ← hD]; simp [hdl])
  have HDO : Hid (D.all (·.oneCell') = true) := Lib.hid (by rw [← hD]; exact all_oneCell_toArray (bytesV_one _))
  have HDZ : Hid (Z.size = D.size) := Lib.hid (by rw [HZS.out, ← hD]; simp [hdl])
  obtain ⟨W2, hW2⟩ : ∃ W2, W1.alloc (.cells Z 41) = W2 := ⟨_, rfl⟩
  obtain ⟨W3, hW3⟩ : ∃ W3, W2.setRow W1.heap.size D = W3 := ⟨_, rfl⟩
  have hA2 : Arr W2 W1.heap.size 41 Z.toList := by rw [← hW2]; exact Arr.made _ _ _
  have hA3 : Arr W3 W1.heap.size 41 (bytesV d) := by rw [← hW3, ← hD]; exact setRow_heap _ _ _ _ _ _ hA2
  have hb3 : Below W1.heap.size W1 W3 := by rw [← hW3, ← hW2]; exact (new12 _ _).trans (below_row (Nat.le_refl _))
  obtain ⟨W4, hW4⟩ : ∃ W4, W3.alloc (.cells #[.slice (some ⟨b1, off1, none⟩) m c] 32) = W4 := ⟨_, rfl⟩
  have hb4 : Below W3.heap.size W3 W4 := by rw [← hW4]; exact new12 _ _
  have hX4 : Boxed W4 W3.heap.size 32 (.slice (some ⟨b1, off1, none⟩) m c) := by rw [← hW4]; exact Boxed.new _ _ _
  have hs3 : W3.heap.size = g + 1 + 1 := by rw [← hW3, setRow_size, ← hW2, World.size_alloc, HS1.out]
  have hA4 : Arr W4 W1.heap.size 41 (bytesV d) := hA3.later hb4 hA3.lt
  have hG4 : Arr W4 g 41 (bytesV (List.replicate 32 0)) := (HA1.out.later hb3 HA1.out.lt).later hb4 (Nat.lt_of_lt_of_le HA1.out.lt hb3.size)
  have hB4 : Below w.heap.size w W4 := Kit.step (Kit.step HB1.out hb3) hb4
  obtain ⟨us, hus⟩ : ∃ us, ws.take m = us := ⟨_, rfl⟩
  have hul : us.length = m := by rw [← hus, List.length_take, HN.out]; omega
  have hU : DgIs w (some ⟨b1, off1, none⟩) us c := by
    have := HR.out.part 0 m (by rw [HN.out]; omega) c (by omega) (by unfold maxLen; omega)
    rwa [Nat.zero_mul, Nat.add_zero, List.drop_zero, hus] at this
  have hJ : Da.jf us d m = Da.jw ws := by
    have := Da.jf_all ws (by rw [HN.out]; omega)
    rw [HN.out, show m + 1 - 1 = m by omega, hus, hd] at this
    exact this
  rw [HS1.out] at hA2 hA3 hA4 hW3
  rw [hs3] at hX4
  have MB := Lib.hid (mback_any (some ⟨b1, off1, none⟩) m c W3)
  rw [hs3, hW4] at MB
  have HRNG := Lib.hid hrng
  have HD := Lib.hid hD
  have HA2 : Hid (W2.heap[g + 1]? = some (.cells Z 41 (0, 0))) := Lib.hid hA2
  have HW2 := Lib.hid hW2
  have HW3 := Lib.hid hW3
  have HJ := Lib.hid hJ
  have HUL := Lib.hid hul
  have HU := Lib.hid hU
  have HDL := Lib.hid hdl
  have HI0 : Hid (JnI us d (some ⟨b1, off1, none⟩) c g (g + 1) (g + 1 + 1) w 0 W4) := Lib.hid ⟨Nat.zero_le _, by rw [Da.jf_zero]; exact hA4, hG4, by rw [hul]; exact hX4, hB4⟩
  have hlt9 : (m : Int) < (m : Int) + 1 := by omega
  clear hrng hd hD hA2 hA3 hb3 hb4 hX4 hs3 hA4 hG4 hB4 hus hul hU hJ hW2 hW3 hW4 hR1 hlt1 hdl
  go_upto_region 4 with fail
  apply wp_region_lit
  (refine wpList_plain rfl (fun K hK => ?_); go_simp; refine hK _ _ ?_; clear hK K)
  (refine wpList_plain rfl (fun K hK => ?_); go_simp; refine hK _ _ ?_; clear hK K)
  (refine wpList_plain rfl (fun K hK => ?_); go_simp; refine hK _ _ ?_; clear hK K)
  refine wpList_load_mid rfl 41 (.tmp 16) rfl b1 (off1 + m * 32) rfl (bytesV d) _ HRNG.out dg_under rfl HRS.out ?_
  rw [HD.out]
  (refine wpList_plain rfl (fun K hK => ?_); go_simp; refine hK _ _ ?_; clear hK K)
  rw [HW2.out, HS1.out]
  refine wpList_store_row rfl 41 (.tmp 4) (.tmp 17) rfl (g + 1) D rfl rfl 41 Z HA2.out HDS.out HDZ.out HDO.out ?_
  rw [HW3.out]
  go_wp2_with fail
  refine MB.out.mono ?_
  rintro e w4 ⟨rfl, rfl⟩
  rename World => W4
  clear MB HRNG HW2 HW3 HA2 HRS
  go_wp2_with fail
  refine Rf.range_toldA (α := Nat × List UInt8) (σ := Nat) rfl (enters_of Tryd.func54 (by kernel_rfl) rfl) (fun x => #[.int .i64 x.1, .agg (bytesV x.2).toArray]) (fun _ => rfl)
    (JnI us d (some ⟨b1, off1, none⟩) c g (g + 1) (g + 1 + 1) w)
    (fun c X => False)
    (fun s x s' X => s' = s + 1 ∧ s < m ∧ x = (m - 1 - s, bi us (m - 1 - s)))
    0 (fun s => s = m) ?hI ?hIx ?hV ?h0 ?hseq ?round ?done ?stop
  case hI => exact fun s X X' h k => h.nc k HI0.out.below.size
  case hIx => exact fun c X X' h k => h
  case hV => exact fun s x s' X X' h k => h
  case h0 => exact HI0.out
  case hseq =>
    intro l B Bx X hnc hi hB hk ht
    have := backs_any us (some ⟨b1, off1, none⟩) c (g + 1 + 1) l (JnI us d (some ⟨b1, off1, none⟩) c g (g + 1) (g + 1 + 1) w) B Bx X ?_ ?_ hk ?_ hi hB
    · refine this.mono ?_
      rintro e X' ⟨hv, (⟨h, hB⟩ | hx)⟩
      · exact ⟨hv, .inl ⟨us.length, HUL.out, h, hB⟩⟩
      · exact ⟨hv, .inr hx⟩
    · exact fun i X h => ⟨h.box, HU.out.later h.below⟩
    · exact fun i X X' h hb => h.later hb
    · intro i X h hB hlt
      rw [HUL.out] at hlt ⊢
      exact (ht i (m - 1 - i, bi us (m - 1 - i)) (i + 1) X h hB ⟨rfl, hlt, rfl⟩).mono fun e X' h => h.imp (fun h => ⟨h.1, h.2.1, h.2.2⟩) id
  case round =>
    rintro l s x s' X Z' To hI ⟨rfl, hlt, rfl⟩ hsz HN' HR' HE'
    have hmi : m - 1 - s < us.length := by rw [HUL.out]; omega
    have hel := HU.out.all.at_ hmi
    have hst := Da.jf_step us d s (by rw [HUL.out]; exact hlt)
    rw [HUL.out] at hst
    have hcl2 := Da.jf_length (us := us) HDL.out s (by rw [HUL.out]; omega)
    have hgl := Da.jf_length (us := us) HDL.out (s + 1) (by rw [HUL.out]; omega)
    obtain ⟨e, he⟩ : ∃ e, bi us (m - 1 - s) = e := ⟨_, rfl⟩
    rw [he] at hel hst
    rw [he]
    have NO := Lib.hid (fun (v : World) (hv : Cds v) => tnode_any e (Da.jf us d s) hel hcl2 v hv)
    rw [← hst] at NO
    obtain ⟨E, hE⟩ : ∃ E, (bytesV e).toArray = E := ⟨_, rfl⟩
    obtain ⟨C, hC⟩ : ∃ C, (bytesV (Da.jf us d s)).toArray = C := ⟨_, rfl⟩
    obtain ⟨G, hG⟩ : ∃ G, (bytesV (Da.jf us d (s + 1))).toArray = G := ⟨_, rfl⟩
    rw [hE, hC, hG] at NO
    have HES : Hid ((Tryd.prog.info? 41).map (·.size) = some E.size) := Lib.hid (by rw [dg_info, ← hE]; simp [hel])
    have HEO : Hid (E.all (·.oneCell') = true) := Lib.hid (by rw [← hE]; exact all_oneCell_toArray (bytesV_one _))
    have HEZ : Hid (Z.size = E.size) := Lib.hid (by rw [HZS.out, ← hE]; simp [hel])
    have HCS : Hid ((Tryd.prog.info? 41).map (·.size) = some C.size) := Lib.hid (by rw [dg_info, ← hC]; simp [hcl2])
    have HGS : Hid ((Tryd.prog.info? 41).map (·.size) = some G.size) := Lib.hid (by rw [dg_info, ← hG]; simp [hgl])
    have HGO : Hid (G.all (·.oneCell') = true) := Lib.hid (by rw [← hG]; exact all_oneCell_toArray (bytesV_one _))
    have HGZ : Hid (C.size = G.size) := Lib.hid (by rw [← hC, ← hG]; simp [hcl2, hgl])
    have HE := Lib.hid hE
    have HC := Lib.hid hC
    have HG2 := Lib.hid hG
    have HSZ := Lib.hid hsz
    have HII := Lib.hid hI
    rw [hE]
    clear hmi hel hst hcl2 hgl he hE hC hG hsz hI
    gi_upto_region 6 with fail
    refine Rf.plain_round (by kernel_rfl) (by rintro ⟨a, w, h⟩; exact h) ?_
    (refine wpList_plain rfl (fun K hK => ?_); go_simp; refine hK _ _ ?_; clear hK K)
    refine wpList_store_row rfl 41 (.tmp 6) (.tmp 23) rfl Z'.heap.size E rfl rfl 41 Z (World.alloc_heap_new Z' _) HES.out HEZ.out HEO.out ?_
    refine wpList_nil ?_
    refine ⟨(new12 _ _).trans (below_row (Nat.le_refl _)), fun Y hY hnew hsy => ?_⟩
    have hY6 : Y.heap[X.heap.size]? = some (.cells E 41 (0, 0)) := by
      rw [hnew _ (Nat.le_refl _), ← HSZ.out]
      exact setRow_heap _ _ _ _ _ _ (World.alloc_heap_new Z' _)
    have hJ := HII.out.later hY
    have hcur : Y.heap[g + 1]? = some (.cells C 41 (0, 0)) := by rw [← HC.out]; exact hJ.cur
    have HNO := Lib.hid (NO.out Y (HV.out.later hJ.below))
    have HJJ := Lib.hid hJ
    have HY := Lib.hid hY
    have HY6 := Lib.hid hY6
    have HCUR := Lib.hid hcur
    rw [HSZ.out]
    clear hY hnew hsy hY6 hJ hcur
    gi_upto_region 7 with fail
    refine Rf.plain_round (by kernel_rfl) (by rintro ⟨a, w, h⟩; exact h) ?_
    refine wpList_load_row rfl 41 (.tmp 6) rfl X.heap.size rfl 41 E (0, 0) _ HY6.out dg_under rfl HES.out ?_
    refine wpList_load_row rfl 41 (.tmp 4) rfl (g + 1) rfl 41 C (0, 0) _ HCUR.out dg_under rfl HCS.out ?_
    (refine wpList_plain rfl (fun K hK => ?_); go_simp)
    refine HNO.out.mono ?_
    rintro e' Y2 ⟨rfl, hb2⟩
    refine hK _ _ ?_
    clear hK K HNO
    have hJ2 := HJJ.out.later hb2
    have hc2 : Y2.heap[g + 1]? = some (.cells C 41 (0, 0)) := by rw [← HC.out]; exact hJ2.cur
    have HC2 := Lib.hid hc2
    have HFI : Hid (KeepsOthers X (Y2.setRow (g + 1) G) ∧ JnI us d (some ⟨b1, off1, none⟩) c g (g + 1) (g + 1 + 1) w (s + 1) (Y2.setRow (g + 1) G)) := Lib.hid ⟨(keeps_below HY.out).trans ((keeps_below hb2).trans (keeps_row hc2)),
      ⟨by rw [HUL.out]; omega, by rw [← HG2.out]; exact hJ2.cur.row_same, hJ2.res.row_ne (by omega), boxed_row_ne hJ2.box (by omega), hJ2.below.trans (below_row (by have := HG.out; omega))⟩⟩
    clear hb2 hJ2 hc2
    refine wpList_store_row rfl 41 (.tmp 4) (.tmp 26) rfl (g + 1) G rfl rfl 41 C HC2.out HGS.out HGZ.out HGO.out ?_
    refine wpList_nil ?_
    exact HN'.out _ _ HFI.out.1 HFI.out.2
  case done =>
    rintro D' s X hD' hs hI hK'
    rw [hs] at hI
    have hcur : X.heap[g + 1]? = some (.cells F 41 (0, 0)) := by
      have := hI.cur
      rw [HJ.out] at this
      unfold Arr at this
      rw [HF.out] at this
      exact this
    have hres := hI.res
    have hne : D' ≠ g := fun e => by
      subst e
      rw [show X.heap[D']? = _ from hres] at hK'
      cases hK'
    have hK2 : (X.setRow g F).heap[D']? = some (.deferred (some [])) := by rw [setRow_other X g D' F hne]; exact hK'
    have HK2 := Lib.hid hK2
    have hg2 : ((X.setRow g F).putObj D' (.deferred none)).heap[g]? = some (.cells F 41 (0, 0)) := by
      rw [World.putObj_heap_other (by omega)]
      exact setRow_heap _ _ _ _ _ _ hres
    have HG2 := Lib.hid hg2
    have HBW : Hid (Below w.heap.size w ((X.setRow g F).putObj D' (.deferred none))) := Lib.hid
      ((hI.below.trans (below_row (Nat.le_of_eq HG.out))).trans (belowK_b (w := w) (Nat.le_refl _) (X.setRow g F) D' _ _ (by have := HI0.out.below.size; omega) hK2 rfl rfl))
    have HCUR := Lib.hid hcur
    have HRES : Hid (X.heap[g]? = some (.cells (bytesV (List.replicate 32 0)).toArray 41 (0, 0))) := Lib.hid hres
    clear hcur hres hne hK2 hg2 hI hK'
    go_upto_region 8 with fail
    apply wp_region_lit
    refine wpList_load_row rfl 41 (.tmp 4) rfl (g + 1) rfl 41 F (0, 0) _ HCUR.out dg_under rfl HFS.out ?_
    refine wpList_store_row rfl 41 (.tmp 2) (.tmp 27) rfl g F rfl rfl 41 (bytesV (List.replicate 32 0)).toArray HRES.out HFS.out HFZ.out HFO.out ?_
    go_wp2_with fail
    refine Rf.leaves HK2.out (results_cell_row rfl _ _ g 41 F (0, 0) _ rfl HG2.out dg_under rfl HFS.out) ?_
    exact ⟨rfl, HBW.out⟩
  case stop => exact fun D c X hD h => h.elim
theorem tjoined_any (ws : List (List UInt8)) (o : Option Addr) (n c : Nat) (hn : ws.length = n) (w : World) (hR : DgIs w o ws c) (hV : Cds w) (hjl : (Da.jw ws).length = 32) :
    Calls Tryd.prog 65 #[.slice o n c] w fun e w' => e = .returned (.agg (bytesV (Da.jw ws)).toArray) ∧ Below w.heap.size w w' := tjoined_of _ rfl dg_zero ws o n c hn w hR hV hjl
end Go.Proofs.YtfccpfmgkpcnoaaDoor
