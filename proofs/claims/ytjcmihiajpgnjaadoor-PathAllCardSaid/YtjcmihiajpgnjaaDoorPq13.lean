/- slices.Backward over a row of rows, by what it gives. -/
import Derived.Test.YtjcmihiajpgnjaaDoorPo13
namespace Go.Proofs.YtjcmihiajpgnjaaDoor
open Go.RowKit
set_option linter.unusedVariables false
set_option linter.unusedSimpArgs false
set_option maxRecDepth 100000 in
theorem backsB_gives (bs : List (List UInt8)) (o : Option Addr) (n c Q : Nat) (hn : bs.length = n) :
    Rf.GivesM Tryd.prog 78 #[.pointer (some ⟨Q, 0, none⟩)] (fun x : Nat × Option Addr × Nat × List UInt8 => #[.int .i64 (x.1 : Int), .slice x.2.1 x.2.2.2.length x.2.2.1])
      (fun X => Boxed X Q 22 (.slice o n c) ∧ RbIs X o bs c)
      (fun M s x s' X => s' = s + 1 ∧ s < n ∧ x.1 = n - 1 - s ∧ x.2.2.2 = bi bs (n - 1 - s) ∧ RowIs X x.2.1 (bytesV x.2.2.2) x.2.2.1 ∧ ∀ b off, o = some ⟨b, off, none⟩ → X.cell? ⟨b, off + x.1, none⟩ = some (.slice x.2.1 x.2.2.2.length x.2.2.1)) 0 (fun s => s = n) := by
  intro l X0 I Bx O0 hl hO hP hI hBx hT h0
  have hpre := hP _ _ _ _ (h0 (fun _ => False) (fun k h => h.elim))
  have hq := hpre.1.cell
  have hn5 : n ≤ 9223372036854775807 := by
    have h1 := hpre.2.le
    have h2 := h1.2
    unfold maxLen at h2
    omega
  refine (callsIn_wide (n := 0)).1 (callsIn_of_wp Tryd.func78 rfl trivial ?_ rfl)
  simp only [Tryd.ntmps78, List.size_toArray, List.length_cons, List.length_nil, Nat.reduceAdd, Nat.reduceSub, Array.replicate_succ, Array.replicate_zero, List.push_toArray, List.append_toArray, List.nil_append, List.cons_append]
  have H0 : Hid (∃ O : Rf.Blk, (∀ k, O k → k < X0.heap.size) ∧ I O (fun _ => False) 0 X0) := Lib.hid ⟨O0, hO, h0 _ (fun k h => h.elim)⟩
  have HN := Lib.hid hn
  have HP := Lib.hid hP
  have HT := Lib.hid hT
  clear hpre hP hI hBx hT h0 hO hn hl
  gi_wp2
  gi_loopw [3] (fun p wr => ∃ k : Nat, k ≤ n ∧ p = .int .i64 ((n : Int) - 1 - (k : Int)) ∧ X0.heap.size ≤ wr.heap.size ∧ ∃ O : Rf.Blk, (∀ k, O k → k < wr.heap.size) ∧ I O (fun _ => False) k wr) (fun p wr => (intOf p + 1).toNat)
  case atStart => exact ⟨0, Nat.zero_le _, by go_num, Nat.le_refl _, H0.out⟩
  case round =>
    obtain ⟨k, hk, rfl, hsz, O, hO, hi⟩ := hrel
    by_cases hlt : k < n
    · obtain ⟨hbx, hrb⟩ := HP.out _ _ _ _ hi
      obtain ⟨i, hie⟩ : ∃ i, i = n - 1 - k := ⟨_, rfl⟩
      obtain ⟨b1, off1, p1, q1, rfl, hb1, hcell, hrow⟩ := hrb.cell i (by rw [HN.out]; omega)
      have hle := hrb.le
      rw [HN.out] at hle
      unfold maxLen at hle
      have hq2 := hbx.cell
      have ht := HT.out O (fun _ => False) k (i, p1, q1, bi bs i) (k + 1) wr (fun k h => h.elim) (fun k h => h.elim) hO hsz hi ⟨rfl, hlt, hie, by rw [hie], hrow, fun b off e => by cases e; exact hcell⟩
      dsimp only at ht
      obtain ⟨E, hE⟩ : ∃ E, bi bs i = E := ⟨_, rfl⟩
      rw [hE] at ht hcell
      obtain ⟨L, hL⟩ : ∃ L, E.length = L := ⟨_, rfl⟩
      rw [hL] at ht hcell
      obtain ⟨fn, tmps, assign, body, hy, hR⟩ := ht
      have hin : ((n : Int) - 1 - (k : Int)) = (i : Int) := by omega
      rw [hin]
      have hin2 : i < n := by omega
      have hck : i < c := by omega
      have HIN := Lib.hid hin
      have HSZ := Lib.hid hsz
      have HLE := Lib.hid hle
      have HR := Lib.hid hR
      clear hrb hrow hbx hi hin hie hE hL hO hsz hle hR
      gi_wp2
      refine ⟨rfl, HR.out.mono ?_⟩
      rintro e W3 ⟨O', ⟨rfl, hi3⟩ | ⟨rfl, hx3⟩, hfr⟩
      · have HI3 := Lib.hid hi3
        have HFR := Lib.hid hfr
        clear hi3 hfr
        gi_wp2
        go_roundw
        case rel => exact ⟨k + 1, by omega, by have := HIN.out; go_num, Nat.le_trans HSZ.out HFR.out.size, O', fun k hk => (HFR.out.ext k hk).1, HI3.out⟩
        case measure => simp [intOf] <;> omega
      · have HX3 := Lib.hid hx3
        clear hx3 hfr
        gi_wp2
        refine bodyPost_ret (results_none rfl _ _ _) rfl ?_
        exact ⟨⟨_, rfl⟩, .inr ⟨O', fun _ => False, fun k h => h.elim, HX3.out⟩⟩
    · obtain rfl : k = n := by omega
      have HI3 := Lib.hid hi
      have HO := Lib.hid hO
      clear hi hO
      gi_wp2
      go_end0
      exact ⟨⟨_, rfl⟩, .inl ⟨O, fun _ => False, k, fun k h => h.elim, fun k h => h.elim, HO.out, rfl, HI3.out⟩⟩
end Go.Proofs.YtjcmihiajpgnjaaDoor
