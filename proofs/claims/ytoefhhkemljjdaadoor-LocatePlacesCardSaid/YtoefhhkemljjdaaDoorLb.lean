/- What the code and the document answer of the same erased places: the same error, or both the locator. -/
import Derived.Test.YtoefhhkemljjdaaDoorAl4
import Derived.Test.YtoefhhkemljjdaaDoorEs
namespace Go.Proofs.YtoefhhkemljjdaaDoor
open Go.RowKit
set_option linter.unusedVariables false
set_option linter.unusedSimpArgs false
theorem does_load_row4 {P : Program} {G : Nat → Value → World → Prop} {Q : Exit → Act → World → Prop} {i : Nat} {o : Oper} {b : Act} {v : World} {x : Operand} {ty t : TypeId} {g : Nat} {cs : Array Value} {fr : Nat × Nat} {d : TypeDesc} (ho : o.op = .load ty x) (hx : b.eval x = .pointer (some ⟨g, 0, none⟩))
    (hg : v.heap[g]? = some (.cells cs t fr)) (hu : P.underlying ty = some d) (hd : (match d with | .struct _ | .array _ _ => true | _ => false) = true) (hi : (P.info? ty).map (·.size) = some cs.size) (hG : G i (.agg cs) v) : Rg.Does P G Q i o b v :=
  Rg.does_pure _ (by simp only [execOp, ho, hx, Instr.loadAt, Instr.sureAddr, Sem.run_bind, Sem.run_pure, Result.andThen_ok, run_loadVar_row v g t ty cs fr d hg hu hd hi]) hG
theorem arr_size {ys : List UInt8} (h : ys.length = 32) : (Tryd.prog.info? 23).map (·.size) = some (bytesV ys).toArray.size := by
  rw [show (bytesV ys).toArray.size = 32 by simp [h]]; kernel_rfl
theorem arr_under : Tryd.prog.underlying 23 = some (.array 32 5) := by kernel_rfl
set_option maxRecDepth 100000 in
set_option maxHeartbeats 4000000 in
theorem cfi_size (m c : Nat) (o : Option Addr) (n : Int) (w : World) (A : Nat → Addr) (hE : Er.Errs w A) (h : ¬ (33 ≤ n ∧ n ≤ 255)) (CS : Array Value) :
    Calls Tryd.prog 21 #[.agg CS, .int .i64 n, .slice o m c] w fun e w' => e = fe_v A 7 ∧ Below w.heap.size w w' := by
  obtain ⟨w1, hw1⟩ : ∃ w1, (w.alloc (.cells CS 36)).alloc (.cells #[.int .i64 0, .slice none 0 0, .slice none 0 0] 46) = w1 := ⟨_, rfl⟩
  have hb1 : Below w.heap.size w w1 := by rw [← hw1]; exact ((Below.refl _ _).alloc (Nat.le_refl _) _).alloc (by simp) _
  have hf1 : w1.heap[w.heap.size + 1]? = some (.cells #[.int .i64 0, .slice none 0 0, .slice none 0 0] 46 (0, 0)) := by
    have := World.alloc_heap_new (w.alloc (.cells CS 36)) (.cells #[.int .i64 0, .slice none 0 0, .slice none 0 0] 46)
    rw [hw1, World.size_alloc] at this
    exact this
  have HER := Lib.hid (cer_size m c o n w1 A (hE.later hb1) h)
  have HB1 := Lib.hid hb1
  have HF1 := Lib.hid hf1
  have HW1 := Lib.hid hw1
  rw [← hw1] at HER
  clear hE hb1 hf1 hw1 h
  go_enter Tryd.func21, Tryd.ntmps21
  go_wp2_with fail
  refine HER.out.mono ?_; rintro e w2 ⟨rfl, hb2⟩
  rw [HW1.out] at hb2
  have HB2 := Lib.hid (Kit.step HB1.out hb2)
  have hf2 : w2.heap[w.heap.size + 1]? = some (.cells #[.int .i64 0, .slice none 0 0, .slice none 0 0] 46 (0, 0)) := by rw [hb2.block _ (Array.getElem?_eq_some_iff.1 HF1.out).1]; exact HF1.out
  have hcc0 : w2.cell? ⟨w.heap.size + 1, 0, none⟩ = some (.int .i64 0) := by rw [cell_of_row _ _ 0 _ _ _ hf2]; rfl
  have hff0 : w2.frozen? ⟨w.heap.size + 1, 0, none⟩ = false := by unfold World.frozen?; rw [hf2]; rfl
  have hcc1 : w2.cell? ⟨w.heap.size + 1, 1, none⟩ = some (.slice none 0 0) := by rw [cell_of_row _ _ 1 _ _ _ hf2]; rfl
  have hff1 : w2.frozen? ⟨w.heap.size + 1, 1, none⟩ = false := by unfold World.frozen?; rw [hf2]; rfl
  have hcc2 : w2.cell? ⟨w.heap.size + 1, 2, none⟩ = some (.slice none 0 0) := by rw [cell_of_row _ _ 2 _ _ _ hf2]; rfl
  have hff2 : w2.frozen? ⟨w.heap.size + 1, 2, none⟩ = false := by unfold World.frozen?; rw [hf2]; rfl
  have HF2 := Lib.hid hf2
  unfold er_v
  clear hb2 hf2 HER
  go_wp2_with fail
  refine bodyPost_ret (results_cell_row2 rfl _ _ (w.heap.size + 1) 46 #[.int .i64 0, .slice none 0 0, .slice none 0 0] (0, 0) _ rfl (fnd_set HF2.out _ _ _) Tryd.underlying46 rfl fnd_size) rfl ?_
  exact ⟨rfl, HB2.out.trans (fnd_below (by omega) _ _ _)⟩
/-- the same error -/
structure ErBad (n : Int) (z : List Int) (A : Nat → Addr) (a : Nat) : Prop where
  lt : a < 20
  code : ∀ (v : World) (o : Option Addr) (c : Nat), RowIs v o (intsV z) c → Er.Errs v A → Calls Tryd.prog 10 #[.int .i64 n, .slice o z.length c] v fun e w' => e = er_v A a ∧ Below v.heap.size v w'
  ref : ∀ (v : World) (o : Option Addr) (c : Nat), RowIs v o (intsV z) c → Calls Tryd.prog 11 #[.int .i64 n, .slice o z.length c] v fun e w' => e = .returned (.tuple #[.slice none 0 0, .int .i64 ((a + 1 : Nat) : Int)]) ∧ Below v.heap.size v w'
  find : ∀ (s : List UInt8) (v : World) (o : Option Addr) (c : Nat), s.length = 32 → RowIs v o (intsV z) c → Er.Errs v A → Calls Tryd.prog 21 #[.agg (bytesV s).toArray, .int .i64 n, .slice o z.length c] v fun e w' => e = fe_v A a ∧ Below v.heap.size v w'
/-- both the locator -/
structure ErGood (m : Nat) (z : List Int) : Prop where
  lo : 33 ≤ m
  hi : m ≤ 255
  ok : EOk m z
  code : ∀ (v : World) (o : Option Addr) (c : Nat), RowIs v o (intsV z) c → Calls Tryd.prog 10 #[.int .i64 m, .slice o z.length c] v fun e w' => ∃ x, e = .returned (.tuple #[x, .nilIface]) ∧ RowV (Gf.locL (xsL m z)) x w' ∧ Below v.heap.size v w'
  ref : ∀ (v : World) (o : Option Addr) (c : Nat), RowIs v o (intsV z) c → Calls Tryd.prog 11 #[.int .i64 m, .slice o z.length c] v fun e w' => ∃ x, e = .returned (.tuple #[x, .int .i64 0]) ∧ RowV (Gf.locL (xsL m z)) x w' ∧ Below v.heap.size v w'
theorem er_good (m : Nat) (z : List Int) (h1 : 33 ≤ m) (h2 : m ≤ 255) (hl : z.length ≤ 900) (hz : ∀ k, k < z.length → -9223372036854775808 ≤ ci z k ∧ ci z k ≤ 9223372036854775807) (hok : EOk m z) : ErGood m z := by
  refine ⟨h1, h2, hok, fun v o c hr => ?_, fun v o c hr => ?_⟩
  · refine (cer_any z m c o v (fun _ => ⟨0, 0, none⟩) hr h1 h2 hl (fun h => absurd hok h)).mono ?_
    rintro e w' ⟨hb, ⟨⟨k, hk, h⟩, _⟩ | ⟨_, ⟨⟨i, j, hj, hi, h⟩, _⟩ | ⟨_, ⟨h, _⟩ | ⟨_, x, rfl, hx⟩⟩⟩⟩
    · have := hok.1 k hk; omega
    · exact absurd h (hok.2.1 i j hj hi)
    · have := hok.2.2; omega
    · rw [er_loc] at hx
      exact ⟨x, rfl, hx, hb⟩
  · refine (res_any z m c o v hr h1 h2 (by omega) hz).mono ?_
    rintro e w' ⟨hb, ⟨⟨k, hk, h⟩, _⟩ | ⟨_, ⟨⟨i, j, hj, hi, h⟩, _⟩ | ⟨_, ⟨h, _⟩ | ⟨_, x, rfl, hx⟩⟩⟩⟩
    · have := hok.1 k hk; omega
    · exact absurd h (hok.2.1 i j hj hi)
    · have := hok.2.2; omega
    · rw [er_loc] at hx
      exact ⟨x, rfl, hx, hb⟩
theorem er_both (n : Int) (z : List Int) (A : Nat → Addr) (hl : z.length ≤ 900) (hz : ∀ k, k < z.length → -9223372036854775808 ≤ ci z k ∧ ci z k ≤ 9223372036854775807) :
    (∃ a, ErBad n z A a) ∨ ∃ m : Nat, n = (m : Int) ∧ ErGood m z := by
  by_cases hn : 33 ≤ n ∧ n ≤ 255
  · obtain ⟨m, rfl⟩ := Int.eq_ofNat_of_zero_le (show 0 ≤ n by omega)
    have h1 : 33 ≤ m := by omega
    have h2 : m ≤ 255 := by omega
    by_cases hbad : ∃ k, k < z.length ∧ (ci z k < 0 ∨ (m : Int) ≤ ci z k)
    · obtain ⟨k, hk, hkb⟩ := hbad
      refine .inl ⟨0, by omega, fun v o c hr hE => (cer_any z m c o v A hr h1 h2 hl (fun _ => hE)).mono ?_, fun v o c hr => (res_any z m c o v hr h1 h2 (by omega) hz).mono ?_, fun s v o c hs hr hE => (cfi_any s z m c o v A hs hr h1 h2 hl (fun _ => hE) (fun _ => hE) _ rfl).mono ?_⟩
      · rintro e w' ⟨hb, ⟨_, rfl⟩ | ⟨hin, _⟩⟩
        · exact ⟨rfl, hb⟩
        · have := hin k hk; omega
      · rintro e w' ⟨hb, ⟨_, rfl⟩ | ⟨hin, _⟩⟩
        · exact ⟨rfl, hb⟩
        · have := hin k hk; omega
      · rintro e w' ⟨hb, ⟨_, rfl⟩ | ⟨hin, _⟩⟩
        · exact ⟨rfl, hb⟩
        · have := hin k hk; omega
    · by_cases hdup : ∃ i j, j < i ∧ i < z.length ∧ ci z i = ci z j
      · obtain ⟨i, j, hj, hi, hij⟩ := hdup
        refine .inl ⟨9, by omega, fun v o c hr hE => (cer_any z m c o v A hr h1 h2 hl (fun _ => hE)).mono ?_, fun v o c hr => (res_any z m c o v hr h1 h2 (by omega) hz).mono ?_, fun s v o c hs hr hE => (cfi_any s z m c o v A hs hr h1 h2 hl (fun _ => hE) (fun _ => hE) _ rfl).mono ?_⟩
        · rintro e w' ⟨hb, ⟨hx, _⟩ | ⟨_, ⟨_, rfl⟩ | ⟨hd, _⟩⟩⟩
          · exact absurd hx hbad
          · exact ⟨rfl, hb⟩
          · exact absurd hij (hd i j hj hi)
        · rintro e w' ⟨hb, ⟨hx, _⟩ | ⟨_, ⟨_, rfl⟩ | ⟨hd, _⟩⟩⟩
          · exact absurd hx hbad
          · exact ⟨rfl, hb⟩
          · exact absurd hij (hd i j hj hi)
        · rintro e w' ⟨hb, ⟨hx, _⟩ | ⟨_, ⟨_, rfl⟩ | ⟨hd, _⟩⟩⟩
          · exact absurd hx hbad
          · exact ⟨rfl, hb⟩
          · exact absurd hij (hd i j hj hi)
      · by_cases h32 : 32 < z.length
        · refine .inl ⟨15, by omega, fun v o c hr hE => (cer_any z m c o v A hr h1 h2 hl (fun _ => hE)).mono ?_, fun v o c hr => (res_any z m c o v hr h1 h2 (by omega) hz).mono ?_, fun s v o c hs hr hE => (cfi_any s z m c o v A hs hr h1 h2 hl (fun _ => hE) (fun _ => hE) _ rfl).mono ?_⟩
          · rintro e w' ⟨hb, ⟨hx, _⟩ | ⟨_, ⟨hx, _⟩ | ⟨_, ⟨_, rfl⟩ | ⟨hle, _⟩⟩⟩⟩
            · exact absurd hx hbad
            · exact absurd hx hdup
            · exact ⟨rfl, hb⟩
            · omega
          · rintro e w' ⟨hb, ⟨hx, _⟩ | ⟨_, ⟨hx, _⟩ | ⟨_, ⟨_, rfl⟩ | ⟨hle, _⟩⟩⟩⟩
            · exact absurd hx hbad
            · exact absurd hx hdup
            · exact ⟨rfl, hb⟩
            · omega
          · rintro e w' ⟨hb, ⟨hx, _⟩ | ⟨_, ⟨hx, _⟩ | ⟨_, ⟨_, rfl⟩ | ⟨hle, _⟩⟩⟩⟩
            · exact absurd hx hbad
            · exact absurd hx hdup
            · exact ⟨rfl, hb⟩
            · omega
        · refine .inr ⟨m, rfl, er_good m z h1 h2 hl hz ⟨fun k hk => ?_, fun i j hj hi h => hdup ⟨i, j, hj, hi, h⟩, by omega⟩⟩
          have h : ¬ (ci z k < 0 ∨ (m : Int) ≤ ci z k) := fun h => hbad ⟨k, hk, h⟩
          omega
  · refine .inl ⟨7, by omega, fun v o c hr hE => cer_size z.length c o n v A hE hn, fun v o c hr => ?_, fun s v o c hs hr hE => cfi_size z.length c o n v A hE hn _⟩
    refine (res_size z.length c o n v hn (by omega)).mono ?_
    rintro e w' ⟨rfl, rfl⟩
    exact ⟨rfl, Below.refl _ _⟩
end Go.Proofs.YtoefhhkemljjdaaDoor
