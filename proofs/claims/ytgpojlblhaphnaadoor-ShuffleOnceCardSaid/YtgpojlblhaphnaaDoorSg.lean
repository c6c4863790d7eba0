/- Shuffles: the code's steps of a key: stepsOf, numbersOf, bitsFor, low, part, join. -/
import Derived.Test.YtgpojlblhaphnaaDoorSf
import Derived.Test.YtgpojlblhaphnaaDoorStq
namespace Go.Proofs.YtgpojlblhaphnaaDoor
open Go.RowKit
set_option linter.unusedVariables false
set_option linter.unusedSimpArgs false
theorem stp_built (p : Nat) (m : Int) : Tryd.prog.built 44 [(0, .pointer (some ⟨p, 0, none⟩)), (1, .int .i64 m)] = some #[.pointer (some ⟨p, 0, none⟩), .int .i64 m] := by kernel_rfl
theorem stp_one (p : Nat) (m : Int) : (#[.pointer (some ⟨p, 0, none⟩), .int .i64 m] : Array Value).all (·.oneCell') = true := all_oneCell_toArray (cs := [.pointer (some ⟨p, 0, none⟩), .int .i64 m]) (fun u hu => by
  rcases List.mem_cons.1 hu with rfl | hu
  · rfl
  · rw [List.mem_singleton] at hu; subst hu; rfl)
theorem stp_size : (Tryd.prog.info? 44).map (·.size) = some 2 := by kernel_rfl
set_option maxRecDepth 100000 in
theorem sto_any (k : List UInt8) (o : Option Addr) (c : Nat) (m : Nat) (w : World) (hR : RowIs w o (bytesV k) c) (hV : Cds w) (hl : k.length ≤ 900000) :
    Calls Tryd.prog 19 #[.slice o k.length c, .int .i64 (m : Int)] w fun e w' => ∃ p, e = .returned (.agg #[.pointer (some ⟨p, 0, none⟩), .int .i64 (m : Int)]) ∧ Arr w' p 67 (bytesV (Da.fil k)) ∧ Below w.heap.size w w' := by
  obtain ⟨g, hg⟩ : ∃ g, w.heap.size = g := ⟨_, rfl⟩
  obtain ⟨W1, hW1⟩ : ∃ W1, w.alloc (.cells #[.pointer none, .int .i64 0] 44) = W1 := ⟨_, rfl⟩
  have hb1 : Below w.heap.size w W1 := by rw [← hW1]; exact (Below.refl _ _).alloc (Nat.le_refl _) _
  have hA1 : Arr W1 g 44 [.pointer none, .int .i64 0] := by rw [← hW1, ← hg]; exact Arr.made _ _ _
  have KM := Lib.hid (kmake_any k o c W1 (hR.later hb1) (hV.later hb1) hl)
  have HA1 := Lib.hid hA1
  have HB1 := Lib.hid hb1
  have HG := Lib.hid hg
  have HW1 := Lib.hid hW1
  clear hR hV hb1 hA1 hg hW1
  go_enter Tryd.func19, Tryd.ntmps19
  go_wp2_with (first | rw [HW1.out])
  refine KM.out.mono ?_
  rintro e W2 ⟨rfl, hk, hb2⟩
  obtain ⟨p, hp⟩ : ∃ p, W1.heap.size = p := ⟨_, rfl⟩
  rw [hp] at hk ⊢
  have hA2 := HA1.out.later hb2 HA1.out.lt
  obtain ⟨W3, hW3⟩ : ∃ W3, W2.setRow g #[.pointer (some ⟨p, 0, none⟩), .int .i64 (m : Int)] = W3 := ⟨_, rfl⟩
  have hA3 : Arr W3 g 44 [.pointer (some ⟨p, 0, none⟩), .int .i64 (m : Int)] := by rw [← hW3]; exact setRow_heap _ _ _ _ _ _ hA2
  have hgp : p ≠ g := by have := HA1.out.lt; omega
  have hk3 : Arr W3 p 67 (bytesV (Da.fil k)) := by rw [← hW3]; unfold Arr; rw [setRow_other _ _ _ _ hgp]; exact hk
  have hB3 : Below w.heap.size w W3 := by rw [← hW3]; exact (Kit.step HB1.out hb2).trans (below_row (by rw [HG.out]; exact Nat.le_refl _))
  have HA2 : Hid (W2.heap[g]? = some (.cells #[.pointer none, .int .i64 0] 44 (0, 0))) := Lib.hid hA2
  have HA3 : Hid (W3.heap[g]? = some (.cells #[.pointer (some ⟨p, 0, none⟩), .int .i64 (m : Int)] 44 (0, 0))) := Lib.hid hA3
  have HK3 := Lib.hid hk3
  have HB3 := Lib.hid hB3
  have HW3 := Lib.hid hW3
  clear hk hb2 hp hA2 hA3 hW3 hgp hk3 hB3
  go_wp2_with (first | rw [HG.out] | refine wpList_built rfl 44 _ rfl [(0, .pointer (some ⟨p, 0, none⟩)), (1, .int .i64 (m : Int))] (by simp; rfl) _ (stp_built p (m : Int)) ?_ | refine wpList_store_row rfl 44 (.tmp 4) (.tmp 8) rfl g #[.pointer (some ⟨p, 0, none⟩), .int .i64 (m : Int)] rfl rfl 44 _ HA2.out stp_size rfl (stp_one p (m : Int)) ?_ | rw [HW3.out])
  refine bodyPost_ret (results_cell_row rfl _ _ g 44 #[.pointer (some ⟨p, 0, none⟩), .int .i64 (m : Int)] (0, 0) _ rfl HA3.out Tryd.underlying44 rfl stp_size) rfl ?_
  exact ⟨p, rfl, HK3.out, by have h := HB3.out; rwa [HG.out] at h⟩
theorem four_bd {m : Nat} (h : m ≤ 10) : 4 ^ m ≤ 1048576 := Nat.pow_le_pow_right (n := 4) (by omega) h
theorem two_bd {m : Nat} (h : m ≤ 10) : 2 ^ m ≤ 1024 := Nat.pow_le_pow_right (n := 2) (by omega) h
theorem four_two (m : Nat) : 4 ^ m = 2 ^ (2 * m) := by rw [Nat.pow_mul]
theorem shl_four (m : Nat) (h : m ≤ 10) (yk : IntKind) : Op.shift .shl .i64 1 yk (2 * (m : Int)) = pure (.int .i64 ((4 ^ m : Nat) : Int)) := by
  have hb := four_bd h
  have e : (1 : Int) * 2 ^ (2 * (m : Int)).toNat = ((4 ^ m : Nat) : Int) := by
    rw [show (2 * (m : Int)).toNat = 2 * m by omega, Int.one_mul, four_two]
    simp
  rw [Go.shift_shl .i64 yk 1 (2 * (m : Int)) (by omega) (by show 2 * (m : Int) ≤ (64 : Nat); omega), e]
  obtain ⟨F, hF⟩ : ∃ F, 4 ^ m = F := ⟨_, rfl⟩
  rw [hF] at hb ⊢
  rw [show IntKind.i64.wrap (F : Int) = (F : Int) by rw [IntKind.wrap_i64]; omega]
theorem four_wrap (m : Nat) (h : m ≤ 10) : wrap64 (2 ^ (2 * m)) = ((4 ^ m : Nat) : Int) := by
  have hb := four_bd h
  have e : (2 : Int) ^ (2 * m) = ((4 ^ m : Nat) : Int) := by rw [four_two]; simp
  rw [e]
  obtain ⟨F, hF⟩ : ∃ F, 4 ^ m = F := ⟨_, rfl⟩
  rw [hF] at hb ⊢
  exact IntWalk.wrap64_in _ ⟨by omega, by omega⟩
set_option maxRecDepth 100000 in
theorem snof_any (m : Nat) (h : m ≤ 10) (w : World) : Calls Tryd.prog 25 #[.int .i64 (m : Int)] w fun e w' => e = .returned (.int .i64 ((4 ^ m : Nat) : Int)) ∧ w' = w := by
  have HS := Lib.hid (four_wrap m h)
  go_enter Tryd.func25, Tryd.ntmps25
  go_wp2_with fail
  go_ret
  refine ⟨?_, rfl⟩
  show Ending.returned (Value.int .i64 (wrap64 (2 ^ (2 * m)))) = _
  rw [HS.out]
def BfAt (n : Nat) (w : World) (i : Value) (wr : World) : Prop :=
  ∃ m q : Nat, m + q = 21 ∧ m ≤ 10 ∧ i = .int .i64 (m : Int) ∧ Da.seekW n q m = Da.bw n ∧ wr = w
set_option maxRecDepth 100000 in
theorem sbits_any (n : Nat) (hn : n ≤ 1048576) (w : World) : Calls Tryd.prog 20 #[.int .i64 (n : Int)] w fun e w' => e = .returned (.int .i64 (Da.bw n : Nat)) ∧ w' = w := by
  go_enter Tryd.func20, Tryd.ntmps20
  go_wp2_with fail
  go_loopw [3] (fun i wr => BfAt n w i wr) (fun i _ => 21 - (intOf i).toNat)
  case atStart => exact ⟨1, 20, rfl, by decide, rfl, rfl, rfl⟩
  case round =>
    obtain ⟨m, q, hmq, h10, rfl, hs, rfl⟩ := hrel
    have NO := Lib.hid (snof_any m h10 wr)
    have hm10 : 4 ^ m < n → m < 10 := fun h => by
      by_cases e : m = 10
      · subst e; omega
      · omega
    have hgo := fun h => Da.seekW_go n q m h (by rw [hmq]; omega)
    have hst := Da.seekW_stop n q m
    obtain ⟨F, hF⟩ : ∃ F, 4 ^ m = F := ⟨_, rfl⟩
    rw [hF] at NO hm10 hgo hst
    have HS := Lib.hid hs
    clear hs hF
    by_cases hlt : F < n
    · have hd : decide ((F : Int) < (n : Int)) = true := by simp; omega
      have h9 := hm10 hlt
      have HG := Lib.hid (hgo hlt)
      clear hgo hst hm10
      go_wp2_with fail
      refine NO.out.mono ?_
      rintro e w' ⟨rfl, rfl⟩
      go_wp2_with fail
      exact ⟨⟨m + 1, q - 1, by have := HG.out.1; omega, by omega, rfl, by rw [← HG.out.2]; exact HS.out, rfl⟩, by simp [intOf]; omega⟩
    · have hd : decide ((F : Int) < (n : Int)) = false := by simp; omega
      have HST := Lib.hid (hst hlt)
      clear hgo hst hm10
      go_wp2_with fail
      refine NO.out.mono ?_
      rintro e w' ⟨rfl, rfl⟩
      go_wp2_with fail
      go_ret
      exact ⟨by rw [← HS.out, HST.out]; rfl, rfl⟩
theorem and_low (x : Int) (m : Nat) (h : m ≤ 10) : bits .and .i64 x ((2 ^ m : Nat) - 1) = x % ((2 ^ m : Nat) : Int) := by
  have hb := two_bd h
  obtain ⟨X, hX⟩ : ∃ X : Nat, x % 18446744073709551616 = (X : Int) := ⟨_, (Int.toNat_of_nonneg (Int.emod_nonneg _ (by decide))).symm⟩
  have hd : ((2 ^ m : Nat) : Int) ∣ 18446744073709551616 := by
    have : (2 ^ m : Nat) ∣ 2 ^ 64 := Nat.pow_dvd_pow 2 (by omega)
    exact Int.natCast_dvd_natCast.2 this
  have h1 : x % ((2 ^ m : Nat) : Int) = ((X % 2 ^ m : Nat) : Int) := by
    rw [← Int.emod_emod_of_dvd x hd, hX]; rfl
  have hp := Nat.two_pow_pos m
  have hy : (BitVec.ofInt 64 (((2 ^ m : Nat) : Int) - 1)).toNat = 2 ^ m - 1 := by
    rw [BitVec.toNat_ofInt]
    obtain ⟨F, hF⟩ : ∃ F, 2 ^ m = F := ⟨_, rfl⟩
    rw [hF] at hb hp ⊢
    have : ((F : Int) - 1) % ((2 ^ 64 : Nat) : Int) = (F : Int) - 1 := by omega
    rw [this]; omega
  have hx : (BitVec.ofInt 64 x).toNat = X := by
    rw [BitVec.toNat_ofInt]
    have : x % ((2 ^ 64 : Nat) : Int) = (X : Int) := hX
    rw [this]; omega
  have hl : X % 2 ^ m < 2 ^ m := Nat.mod_lt _ hp
  rw [h1]
  show IntKind.i64.wrap ((BitVec.ofInt 64 x &&& BitVec.ofInt 64 (((2 ^ m : Nat) : Int) - 1)).toNat : Int) = _
  rw [BitVec.toNat_and, hx, hy, Nat.and_two_pow_sub_one_eq_mod, IntKind.wrap_i64]
  obtain ⟨F, hF⟩ : ∃ F, X % 2 ^ m = F := ⟨_, rfl⟩
  rw [hF] at hl ⊢
  omega
theorem two_wrap (m : Nat) (h : m ≤ 10) : wrap64 (wrap64 (2 ^ m) - 1) = ((2 ^ m : Nat) : Int) - 1 := by
  have hb := two_bd h
  have hp := Nat.two_pow_pos m
  have e : (2 : Int) ^ m = ((2 ^ m : Nat) : Int) := by simp
  rw [e]
  obtain ⟨F, hF⟩ : ∃ F, 2 ^ m = F := ⟨_, rfl⟩
  rw [hF] at hb hp ⊢
  rw [IntWalk.wrap64_in (F : Int) ⟨by omega, by omega⟩]
  exact IntWalk.wrap64_in _ ⟨by omega, by omega⟩
set_option maxRecDepth 100000 in
theorem slow_any (p m : Nat) (h : m ≤ 10) (x : Int) (w : World) : Calls Tryd.prog 37 #[.agg #[.pointer (some ⟨p, 0, none⟩), .int .i64 (m : Int)], .int .i64 x] w fun e w' => e = .returned (.int .i64 (x % ((2 ^ m : Nat) : Int))) ∧ Below w.heap.size w w' := by
  obtain ⟨g, hg⟩ : ∃ g, w.heap.size = g := ⟨_, rfl⟩
  obtain ⟨W1, hW1⟩ : ∃ W1, w.alloc (.cells #[.pointer (some ⟨p, 0, none⟩), .int .i64 (m : Int)] 44) = W1 := ⟨_, rfl⟩
  have HB1 : Hid (Below w.heap.size w W1) := Lib.hid (by rw [← hW1]; exact (Below.refl _ _).alloc (Nat.le_refl _) _)
  have hA1 : Arr W1 g 44 [.pointer (some ⟨p, 0, none⟩), .int .i64 (m : Int)] := by rw [← hW1, ← hg]; exact Arr.made _ _ _
  have hc : W1.cell? ⟨g, 1, none⟩ = some (.int .i64 (m : Int)) := hA1.cell 1
  have HW1 := Lib.hid hW1
  have HG := Lib.hid hg
  clear hg hW1 hA1
  go_enter Tryd.func37, Tryd.ntmps37
  go_wp2_with (first | rw [HW1.out, HG.out])
  go_ret
  refine ⟨?_, HB1.out⟩
  show Ending.returned (Value.int .i64 (bits .and .i64 x (wrap64 (wrap64 (2 ^ m) - 1)))) = _
  rw [two_wrap m h, and_low x m h]
/-- the steps in a block of their own, and what a class of worlds tells of it -/
theorem stp_cls (p m g : Nat) (W1 : World) (hA1 : Arr W1 g 44 [.pointer (some ⟨p, 0, none⟩), .int .i64 (m : Int)]) (v : World) (hb : Below W1.heap.size W1 v) :
    v.cell? ⟨g, 1, none⟩ = some (.int .i64 (m : Int)) ∧ v.cell? ⟨g, 0, none⟩ = some (.pointer (some ⟨p, 0, none⟩)) ∧ v.rangeAt g 0 [.pointer (some ⟨p, 0, none⟩), .int .i64 (m : Int)] := by
  have h := hA1.later hb hA1.lt
  exact ⟨h.cell 1, h.cell 0, h.range 0 _ fun j u hu => by rw [Nat.zero_add]; exact hu⟩
set_option maxRecDepth 100000 in
theorem spart_any (p m : Nat) (h : m ≤ 10) (x : Nat) (w : World) : Calls Tryd.prog 32 #[.agg #[.pointer (some ⟨p, 0, none⟩), .int .i64 (m : Int)], .int .i64 (x : Int)] w fun e w' => e = .returned (.tuple #[.int .i64 ((x / 2 ^ m : Nat) : Int), .int .i64 ((x % 2 ^ m : Nat) : Int)]) ∧ Below w.heap.size w w' := by
  obtain ⟨g, hg⟩ : ∃ g, w.heap.size = g := ⟨_, rfl⟩
  obtain ⟨W1, hW1⟩ : ∃ W1, w.alloc (.cells #[.pointer (some ⟨p, 0, none⟩), .int .i64 (m : Int)] 44) = W1 := ⟨_, rfl⟩
  have HB1 : Hid (Below w.heap.size w W1) := Lib.hid (by rw [← hW1]; exact (Below.refl _ _).alloc (Nat.le_refl _) _)
  have hA1 : Arr W1 g 44 [.pointer (some ⟨p, 0, none⟩), .int .i64 (m : Int)] := by rw [← hW1, ← hg]; exact Arr.made _ _ _
  have CL := Lib.hid (stp_cls p m g W1 hA1)
  have LO : Hid (∀ v, Below W1.heap.size W1 v → Calls Tryd.prog 37 #[.agg #[.pointer (some ⟨p, 0, none⟩), .int .i64 (m : Int)], .int .i64 (x : Int)] v fun e w' => e = .returned (.int .i64 ((x % 2 ^ m : Nat) : Int)) ∧ Below W1.heap.size W1 w') := Lib.hid (fun v hb => by
    refine (slow_any p m h (x : Int) v).mono ?_
    rintro e w' ⟨rfl, hb2⟩
    exact ⟨rfl, Kit.step hb hb2⟩)
  have HD : Hid ((x : Int) / 2 ^ m = ((x / 2 ^ m : Nat) : Int)) := Lib.hid (by simp)
  have HX : Hid (Tryd.prog.underlying 44 = _) := Lib.hid Tryd.underlying44
  have HW1 := Lib.hid hW1
  have HG := Lib.hid hg
  obtain ⟨R, hR⟩ : ∃ R, ((x % 2 ^ m : Nat) : Int) = R := ⟨_, rfl⟩
  rw [hR] at LO ⊢
  obtain ⟨C, hC⟩ : ∃ C : World → Prop, (fun v => Below W1.heap.size W1 v) = C := ⟨_, rfl⟩
  have HC0 : Hid (C { W1 with drawn := W1.drawn + 1 }) := Lib.hid (by rw [← hC]; exact Kit.dn' W1 1)
  have HCm : Hid (∀ v, C v → Below W1.heap.size W1 v) := Lib.hid fun v hv => by rw [← hC] at hv; exact hv
  have HCi : Hid (∀ v, Below W1.heap.size W1 v → C v) := Lib.hid fun v hv => by rw [← hC]; exact hv
  clear hg hW1 hA1 hC hR
  go_enter Tryd.func32, Tryd.ntmps32
  go_wp2_with (first | rw [HW1.out, HG.out])
  refine wp_region_quiet (C := C) (by kernel_rfl) (by kernel_rfl) HC0.out ?_
  simp only
  (refine wpQuiet_step (fun K hK => ?_); refine St.qk_val (x := ?_) (by rfl) (fun w hw => ?_) ?_; rotate_left; (· go_simp <;> with_reducible rfl); go_simp; refine hK _ ?_; clear hK K)
  (refine wpQuiet_step (fun K hK => ?_); refine St.qk_val (x := ?_) (by rfl) (fun w hw => ?_) ?_; rotate_left; (· go_simp <;> with_reducible rfl); go_simp; refine hK _ ?_; clear hK K)
  (refine wpQuiet_step (fun K hK => ?_); refine St.qk_val (x := .int .i64 (m : Int)) (by rfl) (fun w hw => ?_) ?_; (· have hc := (CL.out w (HCm.out w hw)).1; go_simp <;> with_reducible rfl); go_simp; refine hK _ ?_; clear hK K)
  (refine wpQuiet_step (fun K hK => ?_); refine St.qk_val (x := ?_) (by rfl) (fun w hw => ?_) ?_; rotate_left; (· go_simp <;> with_reducible rfl); go_simp; refine hK _ ?_; clear hK K)
  (refine wpQuiet_step (fun K hK => ?_); refine St.qk_val (x := .agg #[.pointer (some ⟨p, 0, none⟩), .int .i64 (m : Int)]) (by rfl) (fun w hw => St.exec_load rfl rfl [.pointer (some ⟨p, 0, none⟩), .int .i64 (m : Int)] _ (CL.out w (HCm.out w hw)).2.2 HX.out rfl stp_size) ?_; go_simp; refine hK _ ?_; clear hK K)
  (refine wpQuiet_step (fun K hK => ?_); refine St.qk_val (x := ?_) (by rfl) (fun w hw => ?_) ?_; rotate_left; (· go_simp <;> with_reducible rfl); go_simp; refine hK _ ?_; clear hK K)
  (refine wpQuiet_step (fun K hK => ?_); refine St.qk_call (by rfl) 37 _ _ rfl #[.agg #[.pointer (some ⟨p, 0, none⟩), .int .i64 (m : Int)], .int .i64 (x : Int)] (by go_simp) (fun w => by simp [go_sem]) (.int .i64 R) (fun v hv => (LO.out v (HCm.out v hv)).mono (fun e w' h => ⟨h.1, HCi.out _ h.2⟩)) ?_; go_simp; refine hK _ ?_; clear hK K)
  (refine wpQuiet_step (fun K hK => ?_); refine St.qk_val (x := ?_) (by rfl) (fun w hw => ?_) ?_; rotate_left; (· go_simp <;> with_reducible rfl); go_simp; refine hK _ ?_; clear hK K)
  (refine wpQuiet_step (fun K hK => ?_); refine St.qk_val (x := ?_) (by rfl) (fun w hw => ?_) ?_; rotate_left; (· go_simp <;> with_reducible rfl); go_simp; refine hK _ ?_; clear hK K)
  refine wpQuiet_nil ?_
  intro W2 hC2
  have HB2 := Lib.hid (Kit.step HB1.out (HCm.out W2 hC2))
  go_wp2_with fail
  refine bodyPost_ret (results_tmp2 rfl _ _ _) rfl ?_
  exact ⟨by rw [← HD.out]; rfl, HB2.out⟩
theorem or_i64 (p q : Nat) (hp : p < 2 ^ 62) (hq : q < 2 ^ 62) : bits .or .i64 (p : Int) (q : Int) = ((p ||| q : Nat) : Int) := by
  have hx : p ||| q < 2 ^ 62 := Nat.or_lt_two_pow hp hq
  have hp' : p % 2 ^ IntKind.i64.bits = p := Nat.mod_eq_of_lt (by show p < 2 ^ 64; omega)
  have hq' : q % 2 ^ IntKind.i64.bits = q := Nat.mod_eq_of_lt (by show q < 2 ^ 64; omega)
  simp only [bits, BitVec.ofInt_natCast, BitVec.toNat_or, BitVec.toNat_ofNat, hp', hq']
  rw [IntKind.wrap_i64]
  omega
theorem xor_i64 (p q : Nat) (hp : p < 2 ^ 62) (hq : q < 2 ^ 62) : bits .xor .i64 (p : Int) (q : Int) = ((p ^^^ q : Nat) : Int) := by
  have hx : p ^^^ q < 2 ^ 62 := Nat.xor_lt_two_pow hp hq
  have hp' : p % 2 ^ IntKind.i64.bits = p := Nat.mod_eq_of_lt (by show p < 2 ^ 64; omega)
  have hq' : q % 2 ^ IntKind.i64.bits = q := Nat.mod_eq_of_lt (by show q < 2 ^ 64; omega)
  simp only [bits, BitVec.ofInt_natCast, BitVec.toNat_xor, BitVec.toNat_ofNat, hp', hq']
  rw [IntKind.wrap_i64]
  omega
theorem shl_join (l r m : Nat) (h : m ≤ 10) (hl : l < 2 ^ m) (hr : r < 2 ^ m) : bits .or .i64 (wrap64 ((l : Int) * 2 ^ m)) (r : Int) = ((l * 2 ^ m + r : Nat) : Int) := by
  have hb := two_bd h
  have e : (l : Int) * 2 ^ m = ((l * 2 ^ m : Nat) : Int) := by simp
  have hlm : l * 2 ^ m < 1048576 := Nat.lt_of_lt_of_le (Nat.mul_lt_mul_of_pos_right hl (Nat.two_pow_pos m)) (Nat.le_trans (Nat.mul_le_mul hb hb) (by decide))
  have hs : l * 2 ^ m + r = l * 2 ^ m ||| r := by
    have := Nat.shiftLeft_add_eq_or_of_lt hr l
    rwa [Nat.shiftLeft_eq] at this
  rw [hs, e]
  obtain ⟨F, hF⟩ : ∃ F, l * 2 ^ m = F := ⟨_, rfl⟩
  rw [hF] at hlm ⊢
  rw [IntWalk.wrap64_in (F : Int) ⟨by omega, by omega⟩]
  exact or_i64 F r (by omega) (by omega)
set_option maxRecDepth 100000 in
theorem sjoin_any (p m : Nat) (h : m ≤ 10) (l r : Nat) (hl : l < 2 ^ m) (hr : r < 2 ^ m) (w : World) : Calls Tryd.prog 34 #[.agg #[.pointer (some ⟨p, 0, none⟩), .int .i64 (m : Int)], .int .i64 (l : Int), .int .i64 (r : Int)] w fun e w' => e = .returned (.int .i64 ((l * 2 ^ m + r : Nat) : Int)) ∧ Below w.heap.size w w' := by
  obtain ⟨g, hg⟩ : ∃ g, w.heap.size = g := ⟨_, rfl⟩
  obtain ⟨W1, hW1⟩ : ∃ W1, w.alloc (.cells #[.pointer (some ⟨p, 0, none⟩), .int .i64 (m : Int)] 44) = W1 := ⟨_, rfl⟩
  have HB1 : Hid (Below w.heap.size w W1) := Lib.hid (by rw [← hW1]; exact (Below.refl _ _).alloc (Nat.le_refl _) _)
  have hA1 : Arr W1 g 44 [.pointer (some ⟨p, 0, none⟩), .int .i64 (m : Int)] := by rw [← hW1, ← hg]; exact Arr.made _ _ _
  have hc : W1.cell? ⟨g, 1, none⟩ = some (.int .i64 (m : Int)) := hA1.cell 1
  have HJ := Lib.hid (shl_join l r m h hl hr)
  have HW1 := Lib.hid hW1
  have HG := Lib.hid hg
  clear hg hW1 hA1 hl hr
  go_enter Tryd.func34, Tryd.ntmps34
  go_wp2_with (first | rw [HW1.out, HG.out])
  go_ret
  refine ⟨?_, HB1.out⟩
  show Ending.returned (Value.int .i64 (bits .or .i64 (wrap64 ((l : Int) * 2 ^ m)) (r : Int))) = _
  rw [HJ.out]
end Go.Proofs.YtgpojlblhaphnaaDoor
