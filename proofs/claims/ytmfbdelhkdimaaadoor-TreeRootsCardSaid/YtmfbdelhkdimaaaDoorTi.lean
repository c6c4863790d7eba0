/- Iterators over digests: slices.Values, the code's digests, slices.Backward. -/
import Derived.Test.YtmfbdelhkdimaaaDoorTg
import Derived.Test.YtmfbdelhkdimaaaDoorRfa
import Derived.Test.YtmfbdelhkdimaaaDoorMu
namespace Go.Proofs.YtmfbdelhkdimaaaDoor
open Go.RowKit
set_option linter.unusedVariables false
set_option linter.unusedSimpArgs false
attribute [local go_sem] Oper.semAt_some
theorem dg_store_run {T : TypeId} (hT : dgI T) {W : World} {g : Nat} {old D : Array Value} (hg : W.heap[g]? = some (.cells old T (0, 0))) (ho : old.size = 32) (hD : D.size = 32) (h1 : D.all (·.oneCell') = true) :
    (Instr.storeAt T (.pointer (some ⟨g, 0, none⟩)) (.agg D)).run Tryd.prog W = .ok () (W.setRow g D) := by
  obtain ⟨i, hi, hz, hs, hb⟩ := dgI_parts hT
  have := run_storeVar_row (P := Tryd.prog) W g T T old D hg (by rw [hi]; simp [hs, hD]) (by rw [ho, hD]) h1
  simp only [Instr.storeAt, Instr.sureAddr, Sem.run_bind, Sem.run_pure, Result.andThen_ok, this]
theorem dg_loadrow_run {T : TypeId} (hu : Tryd.prog.underlying T = some (.array 32 5)) (hT : dgI T) {W : World} {g : Nat} {D : Array Value} {U : TypeId} (hg : W.heap[g]? = some (.cells D U (0, 0))) (hD : D.size = 32) :
    (Instr.loadAt T (.pointer (some ⟨g, 0, none⟩))).run Tryd.prog W = .ok (.agg D) W := by
  obtain ⟨i, hi, hz, hs, hb⟩ := dgI_parts hT
  simp only [Instr.loadAt, Instr.sureAddr, Sem.run_bind, Sem.run_pure, Result.andThen_ok, run_loadVar_row W g U T D (0, 0) _ hg hu rfl (by rw [hi]; simp [hs, hD])]
/-- an iterator over digests -/
def Gives (k : Nat) (lb : Array Value) (ds : List (List UInt8)) (Pre : World → Prop) : Prop :=
  ∀ (l : Nat) (I : Nat → World → Prop) (B Bx : World → Prop) (w : World), (∀ i X, I i X → Pre X) → (∀ i X X', I i X → Below X.heap.size X X' → I i X') → (∀ X X', B X → KeepsOthers X X' → B X') →
    (∀ i X, I i X → B X → i < ds.length → YieldAt Fence.wide 0 Tryd.prog l #[.agg (bytesV (bi ds i)).toArray] X fun e X' => (e = .returned (.bool true) ∧ I (i + 1) X' ∧ B X') ∨ (e = .returned (.bool false) ∧ Bx X')) →
    I 0 w → B w → Calls Tryd.prog k (#[.func (.yield l) #[] #[]] ++ lb) w fun e X => (∃ v, e = .returned v) ∧ ((I ds.length X ∧ B X) ∨ Bx X)
set_option maxRecDepth 100000 in
theorem values_of (Z : Array Value) (hZ : Z.size = 32) (hzs : ∀ w, Sem.run Tryd.prog (zeroValue 32) w = .ok (.agg Z) w) (ds : List (List UInt8)) (o : Option Addr) (c Q : Nat) :
    Gives 41 #[.pointer (some ⟨Q, 0, none⟩)] ds (fun X => Boxed X Q 27 (.slice o ds.length c) ∧ DgIs X o ds c) := by
  intro l I B Bx w hI hA hBk hturn h0 hB
  refine (callsIn_wide (n := 0)).1 (callsIn_of_wp Tryd.func41 rfl trivial ?_ rfl)
  simp only [Tryd.ntmps41, List.size_toArray, List.length_cons, List.length_nil, Nat.reduceAdd, Nat.reduceSub, Array.replicate_succ, Array.replicate_zero, List.push_toArray, List.append_toArray, List.nil_append, List.cons_append]
  have hq := (hI _ _ h0).1.cell
  have hr0 := (hI _ _ h0).2
  have hn : ds.length ≤ 9223372036854775807 := by
    have h1 := hr0.le
    have h2 := hr0.cap
    unfold maxLen at h2
    omega
  obtain ⟨n, hnn⟩ : ∃ n, ds.length = n := ⟨_, rfl⟩
  have HN := Lib.hid hnn
  have HI := Lib.hid hI
  have HT := Lib.hid hturn
  have HA := Lib.hid hA
  have HBK := Lib.hid hBk
  have HZ := Lib.hid hZ
  rw [hnn] at hq hn
  clear hr0 hnn hI hturn hA hBk hZ
  gi_wp2
  gi_loopw [4, 7] (fun _ p wr => ∃ k : Nat, k ≤ n ∧ p = .int .i64 (k : Int) ∧ I k wr ∧ B wr) (fun _ p wr => n - (intOf p).toNat)
  case atStart => exact ⟨0, Nat.zero_le _, rfl, h0, hB⟩
  case round =>
    obtain ⟨k, hk, rfl, hi, hb⟩ := hrel
    by_cases hlt : k < n
    · have hr := (HI.out _ _ hi).2
      have hkd : k < ds.length := by rw [HN.out]; exact hlt
      obtain ⟨b1, off1, rfl, hb1, hrng⟩ := hr.at_ k hkd
      have hd := hr.all.at_ hkd
      have hm := hr.cap
      have hle := hr.le
      rw [HN.out] at hle
      unfold maxLen at hm
      have hrs : (Tryd.prog.info? 32).map (·.size) = some (bytesV (bi ds k)).length := by rw [dg_info]; simp [hd]
      obtain ⟨D, hD⟩ : ∃ D, (bytesV (bi ds k)).toArray = D := ⟨_, rfl⟩
      have HDS : Hid ((Tryd.prog.info? 32).map (·.size) = some D.size) := Lib.hid (by rw [dg_info, ← hD]; simp [hd])
      have HDO : Hid (D.all (·.oneCell') = true) := Lib.hid (by rw [← hD]; exact all_oneCell_toArray (bytesV_one _))
      have HDZ : Hid (Z.size = D.size) := Lib.hid (by rw [HZ.out, ← hD]; simp [hd])
      have hbw : Below wr.heap.size wr ((wr.alloc (.cells Z 32)).setRow wr.heap.size D) := (new12 wr _).trans (below_row (Nat.le_refl _))
      have HROW : Hid (((wr.alloc (.cells Z 32)).setRow wr.heap.size D).heap[wr.heap.size]? = some (.cells D 32 (0, 0))) := Lib.hid (setRow_heap (wr.alloc (.cells Z 32)) wr.heap.size Z D 32 (0, 0) (World.alloc_heap_new wr _))
      have hi2 := HA.out _ _ _ hi hbw
      have hb2 := HBK.out _ _ hb (keeps_below hbw)
      have ht := HT.out k _ hi2 hb2 hkd
      rw [hD] at ht
      obtain ⟨fn, tmps, assign, body, hy, hR⟩ := ht
      have HRNG := Lib.hid hrng
      have HRS := Lib.hid hrs
      have HD := Lib.hid hD
      clear hr hrng hbw hi2 hb2 hm hD hd hrs
      gi_upto_region 2 with fail
      refine wpIn_region_lit ?_
      (refine wpListIn_plain rfl (fun K hK => Rf.oper_wide ?_); go_simp; refine hK _ _ ?_; clear hK K)
      refine wpListIn_plain rfl (fun K hK => Rf.oper_wide (wp_load_mid 32 (.tmp 9) rfl b1 (off1 + k * 32) rfl (bytesV (bi ds k)) _ HRNG.out dg_under rfl HRS.out (hK _ _ ?_)))
      clear hK K
      rw [HD.out]
      (refine wpListIn_plain rfl (fun K hK => Rf.oper_wide ?_); go_simp; refine hK _ _ ?_; clear hK K)
      refine wpListIn_plain rfl (fun K hK => Rf.oper_wide (wp_store_row 32 (.tmp 4) (.tmp 10) rfl wr.heap.size D rfl rfl 32 Z (World.alloc_heap_new wr _) HDS.out HDZ.out HDO.out (hK _ _ ?_)))
      clear hK K
      obtain ⟨X2, hX2⟩ : ∃ X2, (wr.alloc (.cells Z 32)).setRow wr.heap.size D = X2 := ⟨_, rfl⟩
      rw [hX2] at HROW hy hR ⊢
      clear hX2
      refine wpListIn_nil ?_
      gi_upto_region 3 with fail
      refine wpIn_region_lit ?_
      refine wpListIn_plain rfl (fun K hK => Rf.oper_wide ?_)
      go_simp
      refine hK _ _ ?_
      clear hK K
      refine wpListIn_plain rfl (fun K hK => Rf.oper_wide (wp_load_row 32 (.tmp 4) rfl wr.heap.size rfl 32 D (0, 0) _ HROW.out dg_under rfl HDS.out (hK _ _ ?_)))
      clear hK K
      gi_wp2
      refine ⟨rfl, hR.mono ?_⟩
      rintro e W3 (⟨rfl, hi3, hb3⟩ | ⟨rfl, hx3⟩)
      · gi_wp2
        go_roundw
        case rel => exact ⟨k + 1, by omega, by go_num, hi3, hb3⟩
        case measure => simp [intOf]; omega
      · gi_wp2
        refine bodyPost_ret (results_none rfl _ _ _) rfl ?_
        exact ⟨⟨_, rfl⟩, .inr hx3⟩
    · obtain rfl : k = n := by omega
      gi_wp2
      go_end0
      exact ⟨⟨_, rfl⟩, .inl ⟨by rw [HN.out]; exact hi, hb⟩⟩
theorem values_gives (ds : List (List UInt8)) (o : Option Addr) (c Q : Nat) :
    Gives 41 #[.pointer (some ⟨Q, 0, none⟩)] ds (fun X => Boxed X Q 27 (.slice o ds.length c) ∧ DgIs X o ds c) :=
  values_of _ (by simp) dg_zero ds o c Q
theorem mvalues_any (o : Option Addr) (n c : Nat) (w : World) :
    Calls Tryd.prog 31 #[.slice o n c] w fun e w' => e = .returned (.func (.func 41) #[] #[.pointer (some ⟨w.heap.size, 0, none⟩)]) ∧ w' = w.alloc (.cells #[.slice o n c] 27) := by
  have hmf := @makes Tryd.prog
  go_enter Tryd.func31, Tryd.ntmps31
  go_wp2
  go_ret
  exact ⟨rfl, rfl⟩
theorem mdigests_any (o : Option Addr) (n c : Nat) (w : World) :
    Calls Tryd.prog 27 #[.slice o n c] w fun e w' => e = .returned (.func (.func 36) #[] #[.pointer (some ⟨w.heap.size, 0, none⟩)]) ∧ w' = w.alloc (.cells #[.slice o n c] 22) := by
  have hmf := @makes Tryd.prog
  go_enter Tryd.func27, Tryd.ntmps27
  go_wp2
  go_ret
  exact ⟨rfl, rfl⟩
theorem mback_any (o : Option Addr) (n c : Nat) (w : World) :
    Calls Tryd.prog 47 #[.slice o n c] w fun e w' => e = .returned (.func (.func 52) #[] #[.pointer (some ⟨w.heap.size, 0, none⟩)]) ∧ w' = w.alloc (.cells #[.slice o n c] 27) := by
  have hmf := @makes Tryd.prog
  go_enter Tryd.func47, Tryd.ntmps47
  go_wp2
  go_ret
  exact ⟨rfl, rfl⟩
theorem bi_lf (bs : List (List UInt8)) (i : Nat) (h : i < bs.length) : bi (bs.map Da.lf) i = Da.lf (bi bs i) := by simp [bi, h]
set_option maxRecDepth 100000 in
theorem digests_gives (bs : List (List UInt8)) (o : Option Addr) (c Q : Nat) (hl : ∀ i, i < bs.length → (bi bs i).length ≤ 800000) :
    Gives 36 #[.pointer (some ⟨Q, 0, none⟩)] (bs.map Da.lf) (fun X => Boxed X Q 22 (.slice o bs.length c) ∧ RbIs X o bs c ∧ Cds X) := by
  intro l I B Bx w hI hA hBk hturn h0 hB
  refine (callsIn_wide (n := 0)).1 (callsIn_of_wp Tryd.func36 rfl trivial ?_ rfl)
  simp only [Tryd.ntmps36, List.size_toArray, List.length_cons, List.length_nil, Nat.reduceAdd, Nat.reduceSub, Array.replicate_succ, Array.replicate_zero, List.push_toArray, List.append_toArray, List.nil_append, List.cons_append]
  have hq := (hI _ _ h0).1.cell
  have hr0 := (hI _ _ h0).2.1
  have hn : bs.length ≤ 9223372036854775807 := by
    have h1 := hr0.le.1
    have h2 := hr0.le.2
    unfold maxLen at h2
    omega
  rw [List.length_map] at hturn ⊢
  obtain ⟨n, hnn⟩ : ∃ n, bs.length = n := ⟨_, rfl⟩
  rw [hnn] at hturn ⊢
  have HN := Lib.hid hnn
  have HI := Lib.hid hI
  have HT := Lib.hid hturn
  have HA := Lib.hid hA
  have HBK := Lib.hid hBk
  have HL := Lib.hid hl
  rw [hnn] at hq hn
  clear hr0 hnn hI hturn hA hBk hl
  gi_wp2
  gi_loopw [4, 7] (fun _ p wr => ∃ k : Nat, k ≤ n ∧ p = .int .i64 (k : Int) ∧ I k wr ∧ B wr) (fun _ p wr => n - (intOf p).toNat)
  case atStart => exact ⟨0, Nat.zero_le _, rfl, h0, hB⟩
  case round =>
    obtain ⟨k, hk, rfl, hi, hb⟩ := hrel
    by_cases hlt : k < n
    · have hr := (HI.out _ _ hi).2.1
      have hkd : k < bs.length := by rw [HN.out]; exact hlt
      obtain ⟨b1, off1, p1, q1, rfl, hb1, hcell, hrow⟩ := hr.cell k hkd
      have hm := hr.le.2
      have hle := hr.le.1
      rw [HN.out] at hle
      unfold maxLen at hm
      have LE := Lib.hid (tleaf_any (bi bs k) p1 q1 wr hrow (HI.out _ _ hi).2.2 (HL.out k hkd))
      obtain ⟨D, hD⟩ : ∃ D, (bytesV (Da.lf (bi bs k))).toArray = D := ⟨_, rfl⟩
      rw [hD] at LE
      have HD := Lib.hid hD
      have HI1 := Lib.hid hi
      have HB1 := Lib.hid hb
      have HBL := Lib.hid (bi_lf bs k hkd)
      obtain ⟨L, hL⟩ : ∃ L, (bi bs k).length = L := ⟨_, rfl⟩
      rw [hL] at LE hcell
      clear hr hm hD hrow hi hb hL hkd
      gi_upto_region 3 with fail
      refine wpIn_region_lit ?_
      (refine wpListIn_plain rfl (fun K hK => Rf.oper_wide ?_); go_simp; refine hK _ _ ?_; clear hK K)
      (refine wpListIn_plain rfl (fun K hK => Rf.oper_wide ?_); go_simp; refine hK _ _ ?_; clear hK K)
      (refine wpListIn_plain rfl (fun K hK => Rf.oper_wide ?_); go_simp)
      refine LE.out.mono ?_
      rintro e X2 ⟨rfl, hbw⟩
      refine hK _ _ ?_
      clear hK K LE
      have hi2 := HA.out _ _ _ HI1.out hbw
      have hb2 := HBK.out _ _ HB1.out (keeps_below hbw)
      have ht := HT.out k _ hi2 hb2 hlt
      rw [HBL.out, HD.out] at ht
      obtain ⟨fn, tmps, assign, body, hy, hR⟩ := ht
      clear hbw hi2 hb2
      gi_wp2
      refine ⟨rfl, hR.mono ?_⟩
      rintro e W3 (⟨rfl, hi3, hb3⟩ | ⟨rfl, hx3⟩)
      · gi_wp2
        go_roundw
        case rel => exact ⟨k + 1, by omega, by go_num, hi3, hb3⟩
        case measure => simp [intOf]; omega
      · gi_wp2
        refine bodyPost_ret (results_none rfl _ _ _) rfl ?_
        exact ⟨⟨_, rfl⟩, .inr hx3⟩
    · obtain rfl : k = n := by omega
      gi_wp2
      go_end0
      exact ⟨⟨_, rfl⟩, .inl ⟨hi, hb⟩⟩
/-- an iterator over digests with their places, the last one first -/
def Backs (k : Nat) (lb : Array Value) (ds : List (List UInt8)) (Pre : World → Prop) : Prop :=
  ∀ (l : Nat) (I : Nat → World → Prop) (B Bx : World → Prop) (w : World), (∀ i X, I i X → Pre X) → (∀ i X X', I i X → Below X.heap.size X X' → I i X') → (∀ X X', B X → KeepsOthers X X' → B X') →
    (∀ i X, I i X → B X → i < ds.length → YieldAt Fence.wide 0 Tryd.prog l #[.int .i64 ((ds.length - 1 - i : Nat) : Int), .agg (bytesV (bi ds (ds.length - 1 - i))).toArray] X fun e X' => (e = .returned (.bool true) ∧ I (i + 1) X' ∧ B X') ∨ (e = .returned (.bool false) ∧ Bx X')) →
    I 0 w → B w → Calls Tryd.prog k (#[.func (.yield l) #[] #[]] ++ lb) w fun e X => (∃ v, e = .returned v) ∧ ((I ds.length X ∧ B X) ∨ Bx X)
set_option maxRecDepth 100000 in
theorem backs_any (ds : List (List UInt8)) (o : Option Addr) (c Q : Nat) :
    Backs 52 #[.pointer (some ⟨Q, 0, none⟩)] ds (fun X => Boxed X Q 27 (.slice o ds.length c) ∧ DgIs X o ds c) := by
  intro l I B Bx w hI hA hBk hturn h0 hB
  refine (callsIn_wide (n := 0)).1 (callsIn_of_wp Tryd.func52 rfl trivial ?_ rfl)
  simp only [Tryd.ntmps52, List.size_toArray, List.length_cons, List.length_nil, Nat.reduceAdd, Nat.reduceSub, Array.replicate_succ, Array.replicate_zero, List.push_toArray, List.append_toArray, List.nil_append, List.cons_append]
  have hq := (hI _ _ h0).1.cell
  have hr0 := (hI _ _ h0).2
  have hn : ds.length ≤ 9223372036854775807 := by
    have h1 := hr0.le
    have h2 := hr0.cap
    unfold maxLen at h2
    omega
  obtain ⟨n, hnn⟩ : ∃ n, ds.length = n := ⟨_, rfl⟩
  rw [hnn] at hturn ⊢
  have HN := Lib.hid hnn
  have HI := Lib.hid hI
  have HT := Lib.hid hturn
  have HA := Lib.hid hA
  have HBK := Lib.hid hBk
  rw [hnn] at hq hn
  clear hr0 hnn hI hturn hA hBk
  gi_wp2
  gi_loopw [3] (fun p wr => ∃ k : Nat, k ≤ n ∧ p = .int .i64 ((n : Int) - 1 - (k : Int)) ∧ I k wr ∧ B wr) (fun p wr => (intOf p + 1).toNat)
  case atStart => exact ⟨0, Nat.zero_le _, by go_num, h0, hB⟩
  case round =>
    obtain ⟨k, hk, rfl, hi, hb⟩ := hrel
    by_cases hlt : k < n
    · have hq2 := (HI.out _ _ hi).1.cell
      have hr := (HI.out _ _ hi).2
      obtain ⟨i, hie⟩ : ∃ i, i = n - 1 - k := ⟨_, rfl⟩
      have hkd : i < ds.length := by rw [HN.out]; omega
      obtain ⟨b1, off1, rfl, hb1, hrng⟩ := hr.at_ i hkd
      have hd := hr.all.at_ hkd
      have hm := hr.cap
      have hle := hr.le
      rw [HN.out] at hle hq2
      unfold maxLen at hm
      have HRS : Hid ((Tryd.prog.info? 32).map (·.size) = some (bytesV (bi ds i)).length) := Lib.hid (by rw [dg_info]; simp [hd])
      have ht := HT.out k _ hi hb hlt
      rw [← hie] at ht
      obtain ⟨D, hD⟩ : ∃ D, (bytesV (bi ds i)).toArray = D := ⟨_, rfl⟩
      rw [hD] at ht
      obtain ⟨fn, tmps, assign, body, hy, hR⟩ := ht
      have HRNG := Lib.hid hrng
      have HD := Lib.hid hD
      have hin : ((n : Int) - 1 - (k : Int)) = (i : Int) := by omega
      rw [hin]
      have hin2 : i < n := by omega
      have HIN := Lib.hid hin
      clear hr hrng hm hD hd hi hb hin hie hkd
      gi_upto_region 3 with fail
      refine wpIn_region_lit ?_
      (refine wpListIn_plain rfl (fun K hK => Rf.oper_wide ?_); go_simp; refine hK _ _ ?_; clear hK K)
      (refine wpListIn_plain rfl (fun K hK => Rf.oper_wide ?_); go_simp; refine hK _ _ ?_; clear hK K)
      (refine wpListIn_plain rfl (fun K hK => Rf.oper_wide ?_); go_simp; refine hK _ _ ?_; clear hK K)
      (refine wpListIn_plain rfl (fun K hK => Rf.oper_wide ?_); go_simp; refine hK _ _ ?_; clear hK K)
      (refine wpListIn_plain rfl (fun K hK => Rf.oper_wide ?_); go_simp; refine hK _ _ ?_; clear hK K)
      refine wpListIn_plain rfl (fun K hK => Rf.oper_wide (wp_load_mid 32 (.tmp 15) rfl b1 (off1 + i * 32) rfl (bytesV (bi ds i)) _ HRNG.out dg_under rfl HRS.out (hK _ _ ?_)))
      clear hK K
      rw [HD.out]
      gi_wp2
      refine ⟨rfl, hR.mono ?_⟩
      rintro e W3 (⟨rfl, hi3, hb3⟩ | ⟨rfl, hx3⟩)
      · gi_wp2
        go_roundw
        case rel => exact ⟨k + 1, by omega, by have := HIN.out; go_num, hi3, hb3⟩
        case measure => simp [intOf] <;> omega
      · gi_wp2
        refine bodyPost_ret (results_none rfl _ _ _) rfl ?_
        exact ⟨⟨_, rfl⟩, .inr hx3⟩
    · obtain rfl : k = n := by omega
      have hd : decide ((k : Int) - 1 - (k : Int) ≥ 0) = false := by simp; omega
      gi_wp2
      go_end0
      exact ⟨⟨_, rfl⟩, .inl ⟨hi, hb⟩⟩
end Go.Proofs.YtmfbdelhkdimaaaDoor
