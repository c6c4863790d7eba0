/- Layer 14's laws: same, an error's number, and what they ask of the code's Prove, Count and Check. What the laws of layer 14 ask of the code's Frontier. Layer 14's alive, walked over the code's Frontier. -/
import Derived.Test.YtfccpfmgkpcnoaaDoorRx14
import Derived.Test.YtfccpfmgkpcnoaaDoorRk14
import Derived.Test.YtfccpfmgkpcnoaaDoorGx14
namespace Go.Proofs.YtfccpfmgkpcnoaaDoor
open Go.RowKit
set_option linter.unusedVariables false
set_option linter.unusedSimpArgs false
def SmAt14 (n : Nat) (w : World) (iv : Value) (wr : World) : Prop := ∃ k : Nat, k ≤ n ∧ iv = .int .i64 (k : Int) ∧ Below w.heap.size w wr
set_option maxRecDepth 100000 in
set_option maxHeartbeats 2000000 in
theorem same_any14 (ds : List (List UInt8)) (o o2 : Option Addr) (n c c2 : Nat) (hn : ds.length = n) (w : World) (h1 : DgIs w o ds c) (h2 : DgIs w o2 ds c2) :
    Calls Tryd.prog 17 #[.slice o n c, .slice o2 n c2] w fun e w' => e = .returned (.bool true) ∧ Below w.heap.size w w' := by
  have hcl := h1.le
  have hca := h1.cap
  have hcl2 := h2.le
  have hca2 := h2.cap
  rw [hn] at hcl hcl2
  unfold maxLen at hca hca2
  have H1 := Lib.hid h1
  have H2 := Lib.hid h2
  have HN := Lib.hid hn
  have hgd := d32_guard
  clear h1 h2 hn
  go_enter Tryd.func17, Tryd.ntmps17
  go_wp2_with fail
  go_loopw [13] (fun iv wr => SmAt14 n w iv wr) (fun iv _ => n - (intOf iv).toNat)
  case atStart => exact ⟨0, Nat.zero_le _, rfl, Below.refl _ _⟩
  case round =>
    obtain ⟨k, hk, rfl, hb⟩ := hrel
    by_cases hlt : k < n
    · have hr1 := H1.out.later hb
      have hr2 := H2.out.later hb
      obtain ⟨b1, off1, rfl, hb1, hrng1⟩ := hr1.at_ k (by have := HN.out; omega)
      obtain ⟨b2, off2, rfl, hb2, hrng2⟩ := hr2.at_ k (by have := HN.out; omega)
      have hel := hr1.all.at_ (i := k) (by have := HN.out; omega)
      obtain ⟨D, hD⟩ : ∃ D, (bytesV (bi ds k)).toArray = D := ⟨_, rfl⟩
      have hne : ∀ W, (binOp .neq 40 (.agg D) (.agg D)).run Tryd.prog W = .ok (.bool false) W := fun W => by
        have := d32_neq (bi ds k) (bi ds k) hel hel W
        rw [hD, beq_self_eq_true] at this
        exact this
      obtain ⟨C, hC⟩ : ∃ C : World → Prop, (fun v => Below wr.heap.size wr v) = C := ⟨_, rfl⟩
      have HC1 : Hid (∀ v, Below wr.heap.size wr v → C v) := Lib.hid fun v hv => by rw [← hC]; exact hv
      have HC2 : Hid (∀ v, C v → Below wr.heap.size wr v) := Lib.hid fun v hv => by rw [← hC] at hv; exact hv
      have HM1 : Hid (∀ v, C v → v.rangeAt b1 (off1 + k * 32) (bytesV (bi ds k))) := Lib.hid fun v hv => rangeAt_later hrng1 (HC2.out v hv) hb1
      have HM2 : Hid (∀ v, C v → v.rangeAt b2 (off2 + k * 32) (bytesV (bi ds k))) := Lib.hid fun v hv => rangeAt_later hrng2 (HC2.out v hv) hb2
      have HS1 : Hid ((Tryd.prog.info? 41).map (·.size) = some (bytesV (bi ds k)).length) := Lib.hid (by rw [dg_info]; simp [hel])
      have HS2 : Hid ((Tryd.prog.info? 40).map (·.size) = some (bytesV (bi ds k)).length) := Lib.hid (by rw [d32_info]; simp [hel])
      have hC0 : C wr.drew := HC1.out _ (Kit.dn' wr 1)
      have HD := Lib.hid hD
      have HB := Lib.hid hb
      clear hr1 hr2 hb1 hrng1 hb2 hrng2 hel hD hC hb
      go_upto_region 6 with fail
      refine Rgt.region C (fun _ => false) (by kernel_rfl) ?_
      refine Rgt.take (i := 0) (x := .slice (some ⟨b1, off1, none⟩) n c) rfl rfl (by kernel_rfl) (by kernel_rfl) (by kernel_rfl) (by kernel_rfl) (fun _ _ _ h => h) (Or.inl ⟨by kernel_rfl, fun w hw => by (go_simp <;> with_reducible rfl)⟩) hC0 ?_
      go_simp
      refine Rgt.take (i := 1) (x := .int .i64 (k : Int)) rfl rfl (by kernel_rfl) (by kernel_rfl) (by kernel_rfl) (by kernel_rfl) (fun _ _ _ h => h) (Or.inl ⟨by kernel_rfl, fun w hw => by (go_simp <;> with_reducible rfl)⟩) hC0 ?_
      go_simp
      refine Rgt.take (i := 2) (x := .pointer (some ⟨b1, off1 + k * 32, none⟩)) rfl rfl (by kernel_rfl) (by kernel_rfl) (by kernel_rfl) (by kernel_rfl) (fun _ _ _ h => h) (Or.inl ⟨by kernel_rfl, fun w hw => by (go_simp <;> with_reducible rfl)⟩) hC0 ?_
      go_simp
      refine Rgt.take (i := 3) (x := .agg D) rfl rfl (by kernel_rfl) (by kernel_rfl) (by kernel_rfl) (by kernel_rfl) (fun _ _ _ h => h) (Or.inl ⟨by kernel_rfl, fun w hw => by rw [← HD.out]; exact St.exec_load rfl rfl (bytesV (bi ds k)) _ (HM1.out w hw) dg_under rfl HS1.out⟩) hC0 ?_
      go_simp
      refine Rgt.take (i := 4) (x := .slice (some ⟨b2, off2, none⟩) n c2) rfl rfl (by kernel_rfl) (by kernel_rfl) (by kernel_rfl) (by kernel_rfl) (fun _ _ _ h => h) (Or.inl ⟨by kernel_rfl, fun w hw => by (go_simp <;> with_reducible rfl)⟩) hC0 ?_
      go_simp
      refine Rgt.take (i := 5) (x := .int .i64 (k : Int)) rfl rfl (by kernel_rfl) (by kernel_rfl) (by kernel_rfl) (by kernel_rfl) (fun _ _ _ h => h) (Or.inl ⟨by kernel_rfl, fun w hw => by (go_simp <;> with_reducible rfl)⟩) hC0 ?_
      go_simp
      refine Rgt.take (i := 6) (x := .pointer (some ⟨b2, off2 + k * 32, none⟩)) rfl rfl (by kernel_rfl) (by kernel_rfl) (by kernel_rfl) (by kernel_rfl) (fun _ _ _ h => h) (Or.inl ⟨by kernel_rfl, fun w hw => by (go_simp <;> with_reducible rfl)⟩) hC0 ?_
      go_simp
      refine Rgt.take (i := 7) (x := .agg D) rfl rfl (by kernel_rfl) (by kernel_rfl) (by kernel_rfl) (by kernel_rfl) (fun _ _ _ h => h) (Or.inl ⟨by kernel_rfl, fun w hw => by rw [← HD.out]; exact St.exec_load rfl rfl (bytesV (bi ds k)) _ (HM2.out w hw) d32_under rfl HS2.out⟩) hC0 ?_
      go_simp
      refine Rgt.take (i := 8) (x := .bool false) rfl rfl (by kernel_rfl) (by kernel_rfl) (by kernel_rfl) (by kernel_rfl) (fun _ _ _ h => h) (Or.inl ⟨by kernel_rfl, fun w hw => by have hc := hne w; (go_simp <;> with_reducible rfl)⟩) hC0 ?_
      go_simp
      refine Rgt.done (by kernel_rfl) ?_ _
      have HB2 := Lib.hid (Kit.step HB.out (HC2.out _ hC0))
      clear hC0
      go_wp2_with fail
      go_roundw
      case rel => exact ⟨k + 1, by omega, by go_num, HB2.out⟩
      case measure => simp [intOf]; omega
    · obtain rfl : k = n := by omega
      have HB := Lib.hid hb
      clear hb
      go_wp2_with fail
      go_ret
      exact ⟨rfl, HB.out⟩
theorem num_errP14 (A : Nat → Addr) (k : Nat) (hk : k ≤ 20) (w : World) (hE : Er.Errs w A) : Calls Tryd.prog 22 #[errP A k] w fun e w' => e = .returned (.int .i64 (k : Int)) ∧ Below w.heap.size w w' := by
  unfold errP
  by_cases h0 : k = 0
  · rw [if_pos h0]
    subst h0
    refine (Er.num_nil w).mono ?_
    rintro e w' ⟨rfl, rfl⟩
    exact ⟨rfl, Below.refl _ _⟩
  · rw [if_neg h0]
    have := Er.num_of A (k - 1) (by omega) w hE
    rw [show k - 1 + 1 = k by omega] at this
    exact this
/-- what a count is -/
def Da.gcn (m n : Int) : Int := if 1 ≤ m ∧ m ≤ n ∧ n ≤ 512 then ((cnt m.toNat n.toNat true : Nat) : Int) else -1
/-- what the laws ask of Prove, Count and Check -/
structure GrC (A : Nat → Addr) : Prop where
  prove : ∀ (W : World) (ds : List (List UInt8)) (o : Option Addr) (n c m : Nat), ds.length = n → 1 ≤ m → m ≤ n → n ≤ 512 → DgIs W o ds c → Cds W →
    Calls Tryd.prog 23 #[.slice o n c, .int .i64 (m : Int)] W fun e w' => ∃ o' c', e = .returned (.tuple #[.slice o' (Da.cnt m n true) c', .nilIface]) ∧ DgIs w' o' (Da.prf ds m true) c' ∧ Below W.heap.size W w'
  bad : ∀ (W : World) (ds : List (List UInt8)) (o : Option Addr) (n c : Nat) (m : Int), ds.length = n → ¬ (1 ≤ m ∧ m ≤ (n : Int) ∧ (n : Int) ≤ 512) → DgIs W o ds c → Cds W → E13 W A →
    Calls Tryd.prog 23 #[.slice o n c, .int .i64 m] W fun e w' => ∃ o' c', e = .returned (.tuple #[.slice o' 0 c', errP A 1]) ∧ Below W.heap.size W w'
  count : ∀ (W : World) (m n : Int), Calls Tryd.prog 25 #[.int .i64 m, .int .i64 n] W fun e w' => e = .returned (.int .i64 (Da.gcn m n)) ∧ Below W.heap.size W w'
  check : ∀ (W : World) (m n : Int) (old now : List UInt8) (ps : List (List UInt8)) (o : Option Addr) (c : Nat), old.length = 32 → now.length = 32 → ps.length ≤ 1000 → DgIs W o ps c → Cds W → E13 W A →
    Calls Tryd.prog 26 #[.int .i64 m, .agg (bytesV old).toArray, .int .i64 n, .agg (bytesV now).toArray, .slice o ps.length c] W fun e w' => e = .returned (errP A (Da.gch m old n now ps)) ∧ Below W.heap.size W w'
  alive : ∀ W : World, Cds W → Rds W → Calls Tryd.prog 9 #[] W fun e w' => e = .returned (.bool true) ∧ Below W.heap.size W w'
end Go.Proofs.YtfccpfmgkpcnoaaDoor
namespace Go.Proofs.YtfccpfmgkpcnoaaDoor
open Go.RowKit
set_option linter.unusedVariables false
set_option linter.unusedSimpArgs false
/-- FR O W v n ps: v is a frontier of n leaves with the peaks ps; it lies in the blocks O -/
structure FrC (A : Nat → Addr) (FR : Rf.Blk → World → Value → Nat → List (List UInt8) → Prop) : Prop where
  ptr : ∀ {O W v n ps}, FR O W v n ps → ∃ a, v = .pointer (some a)
  lt : ∀ {O W v n ps}, FR O W v n ps → ∀ k, O k → k < W.heap.size
  keep : ∀ {O W W' v n ps}, FR O W v n ps → W.heap.size ≤ W'.heap.size → (∀ k, O k → W'.heap[k]? = W.heap[k]?) → FR O W' v n ps
  all : ∀ {O W v n ps}, FR O W v n ps → Da.all32 ps ∧ ps.length = Da.ones n ∧ n ≤ 1099511627776
  new : ∀ W : World, Calls Tryd.prog 11 #[] W fun e w' => ∃ v O, e = .returned v ∧ FR O w' v 0 [] ∧ Below W.heap.size W w' ∧ ∀ k, O k → W.heap.size ≤ k
  add : ∀ {O W v n ps}, FR O W v n ps → n < 1099511627776 → ∀ (b : List UInt8) (o : Option Addr) (c : Nat), RowIs W o (bytesV b) c → b.length ≤ 800000 → Cds W →
    Calls Tryd.prog 14 #[v, .slice o b.length c] W fun e w' => ∃ O', e = .returned .nilIface ∧ FR O' w' v (n + 1) (Da.psh n ps (Da.lf b)) ∧ Rf.Mut O W w' ∧ ∀ k, O' k → O k ∨ W.heap.size ≤ k
  full : ∀ {O W v ps}, FR O W v 1099511627776 ps → ∀ (b : List UInt8) (o : Option Addr) (c : Nat), RowIs W o (bytesV b) c → b.length ≤ 800000 → Cds W → Er.Errs W A →
    Calls Tryd.prog 14 #[v, .slice o b.length c] W fun e w' => e = .returned (errP A 12) ∧ Below W.heap.size W w'
  root : ∀ {O W v n ps}, FR O W v n ps → Cds W → Calls Tryd.prog 19 #[v] W fun e w' => e = .returned (.agg (bytesV (Da.rtp ps)).toArray) ∧ Below W.heap.size W w'
  size : ∀ {O W v n ps}, FR O W v n ps → Calls Tryd.prog 16 #[v] W fun e w' => e = .returned (.int .i64 (n : Int)) ∧ Below W.heap.size W w'
  peaks : ∀ {O W v n ps}, FR O W v n ps → Calls Tryd.prog 13 #[v] W fun e w' => ∃ o c, e = .returned (.slice o ps.length c) ∧ DgIs w' o ps c ∧ Below W.heap.size W w'
  of : ∀ (W : World) (n : Nat) (ps : List (List UInt8)) (o : Option Addr) (c : Nat), DgIs W o ps c → ps.length = Da.ones n → n ≤ 1099511627776 →
    Calls Tryd.prog 12 #[.int .i64 (n : Int), .slice o ps.length c] W fun e w' => ∃ v O, e = .returned (.tuple #[v, .nilIface]) ∧ FR O w' v n ps ∧ Below W.heap.size W w' ∧ ∀ k, O k → W.heap.size ≤ k
  ofr : ∀ (W : World) (n : Int) (ps : List (List UInt8)) (o : Option Addr) (c : Nat), DgIs W o ps c → ¬ (0 ≤ n ∧ n ≤ 1099511627776) → ps.length ≤ 1000 → Er.Errs W A →
    Calls Tryd.prog 12 #[.int .i64 n, .slice o ps.length c] W fun e w' => e = .returned (.tuple #[.pointer none, errP A 1]) ∧ Below W.heap.size W w'
  ofs : ∀ (W : World) (n : Nat) (ps : List (List UInt8)) (o : Option Addr) (c : Nat), DgIs W o ps c → n ≤ 1099511627776 → ps.length ≠ Da.ones n → ps.length ≤ 1000 → Er.Errs W A →
    Calls Tryd.prog 12 #[.int .i64 (n : Int), .slice o ps.length c] W fun e w' => e = .returned (.tuple #[.pointer none, errP A 8]) ∧ Below W.heap.size W w'
theorem FrC.later {A : Nat → Addr} {FR : Rf.Blk → World → Value → Nat → List (List UInt8) → Prop} (h : FrC A FR) {O : Rf.Blk} {W W' : World} {v : Value} {n : Nat} {ps : List (List UInt8)} (hf : FR O W v n ps) (hb : Below W.heap.size W W') : FR O W' v n ps :=
  h.keep hf hb.size fun k hk => hb.block k (h.lt hf k hk)
end Go.Proofs.YtfccpfmgkpcnoaaDoor
namespace Go.Proofs.YtfccpfmgkpcnoaaDoor
open Go.RowKit
set_option linter.unusedVariables false
set_option linter.unusedSimpArgs false
set_option maxRecDepth 100000 in
set_option maxHeartbeats 4000000 in
theorem al14_any (A : Nat → Addr) (FR : Rf.Blk → World → Value → Nat → List (List UInt8) → Prop) (hF : FrC A FR) (w : World) (hV : Cds w) (hD : Rds w) :
    Calls Tryd.prog 9 #[] w fun e w' => e = .returned (.bool true) ∧ Below w.heap.size w w' := by
  have HNW := Lib.hid (hF.new w)
  have HF := Lib.hid hF
  have HV := Lib.hid hV
  have HD := Lib.hid hD
  have hnn := neq_nil13
  obtain ⟨LL, hLL⟩ : ∃ L, Da.lf [7] = L := ⟨_, rfl⟩
  have hll : LL.length = 32 := by rw [← hLL]; exact Da.lf_length _
  have hpsh : Da.psh 0 [] (Da.lf [7]) = [LL] := by rw [Da.psh_even _ _ rfl, hLL]; rfl
  obtain ⟨LA, hLA⟩ : ∃ L, (bytesV LL).toArray = L := ⟨_, rfl⟩
  have heq1 : ∀ v, (binOp .eql 40 (.agg LA) (.agg LA)).run Tryd.prog v = .ok (.bool true) v := fun v => by
    have := d32_eql LL LL hll hll v
    rw [hLA, beq_self_eq_true] at this
    exact this
  have hgd := d32_guard
  have HP := Lib.hid hpsh
  have HLL := Lib.hid (And.intro hLL (And.intro hll hLA))
  clear hF hV hD hpsh hLL hll hLA
  go_enter Tryd.func9, Tryd.ntmps9
  go_wp2_with fail
  refine HNW.out.mono ?_
  rintro e W1 ⟨v, O, rfl, hfr, hb1, hO⟩
  obtain ⟨a, rfl⟩ := HF.out.ptr hfr
  obtain ⟨W2, hW2⟩ : ∃ W2, W1.alloc (.cells #[.int .u8 7] 5) = W2 := ⟨_, rfl⟩
  have hb2 : Below W1.heap.size W1 W2 := by rw [← hW2]; exact new12 _ _
  have hrow : RowIs W2 (some ⟨W1.heap.size, 0, none⟩) (bytesV [7]) 1 := by rw [← hW2]; exact zrow12 7 W1
  have AD := HF.out.add (HF.out.later hfr hb2) (by omega) [7] (some ⟨W1.heap.size, 0, none⟩) 1 hrow (by simp) (HV.out.later (Kit.step hb1 hb2))
  rw [show ([7] : List UInt8).length = 1 from rfl, HP.out] at AD
  have HAD := Lib.hid AD
  have HW2 := Lib.hid hW2
  have HB2 := Lib.hid (Kit.step hb1 hb2)
  have HO := Lib.hid hO
  clear hfr hb1 hO hW2 hb2 hrow AD HNW
  go_upto_region 2 with fail
  apply wp_region_lit
  (refine wpList_plain rfl (fun K hK => ?_); go_simp; refine hK _ _ ?_; clear hK K)
  (refine wpList_plain rfl (fun K hK => ?_); go_simp; refine hK _ _ ?_; clear hK K)
  (refine wpList_plain rfl (fun K hK => ?_); go_simp; refine hK _ _ ?_; clear hK K)
  (refine BigFrame.wpList_want (by rfl) (fun K hK => ?_); go_simp; refine hK _ _ ?_; clear hK K)
  (refine BigFrame.wpList_want (by rfl) (fun K hK => ?_); go_simp; refine hK _ _ ?_; clear hK K)
  rw [HW2.out]
  refine BigFrame.wpList_want (by rfl) (fun K hK => ?_)
  go_simp
  refine HAD.out.mono ?_
  rintro e W3 ⟨O', rfl, hfr3, hm3, hO3⟩
  have HB3 : Hid (Below w.heap.size w W3) := Lib.hid (HB2.out.trans (hm3.below (fun q hq ho => by have := HO.out q ho; omega) HB2.out.size))
  have HFR3 := Lib.hid hfr3
  have HPK := Lib.hid (HF.out.peaks hfr3)
  refine hK _ _ ?_
  clear hK K hfr3 hm3 hO3 HAD HW2
  go_wp2_with fail
  refine HPK.out.mono ?_
  rintro e W4 ⟨o4, c4, rfl, hdg4, hb4⟩
  have hb34 := hb4
  have HB4 := Lib.hid (Kit.step HB3.out hb4)
  have HFR4 := Lib.hid (HF.out.later HFR3.out hb4)
  obtain ⟨b1, off1, rfl, hlt1, hrng⟩ := hdg4.at_ 0 (by simp)
  rw [Nat.zero_mul, Nat.add_zero, show bi [LL] 0 = LL from rfl] at hrng
  have hcl := hdg4.le
  have hca := hdg4.cap
  rw [show ([LL] : List (List UInt8)).length = 1 from rfl] at hcl ⊢
  unfold maxLen at hca
  have HSZ := Lib.hid (fun (W : World) (hW : Below W4.heap.size W4 W) => HF.out.size (HF.out.later HFR4.out hW))
  have HLT := Lib.hid hlt1
  have HRNG := Lib.hid hrng
  clear hdg4 hb4 hb34 hlt1 hrng HPK
  obtain ⟨C, hC⟩ : ∃ C : World → Prop, (fun v => Below W4.heap.size W4 v) = C := ⟨_, rfl⟩
  have HC1 : Hid (∀ v, Below W4.heap.size W4 v → C v) := Lib.hid fun v hv => by rw [← hC]; exact hv
  have HC2 : Hid (∀ v, C v → Below W4.heap.size W4 v) := Lib.hid fun v hv => by rw [← hC] at hv; exact hv
  have hC0 : C W4.drew := HC1.out _ (Kit.dn' W4 1)
  clear hC
  have HLD : Hid (∀ v, C v → (Instr.loadAt 41 (.pointer (some ⟨b1, off1, none⟩))).run Tryd.prog v = .ok (.agg LA) v) := Lib.hid fun v hv => by
    have := dg_load_run dg_under dgI_code HLL.out.2.1 (rangeAt_later HRNG.out (HC2.out v hv) HLT.out)
    rw [HLL.out.2.2] at this
    exact this
  go_upto_region 5 with fail
  refine Rgt.region C (fun _ => false) (by kernel_rfl) ?_
  refine Rgt.take (i := 0) (x := .pointer (some a)) rfl rfl (by kernel_rfl) (by kernel_rfl) (by kernel_rfl) (by kernel_rfl) (fun _ _ _ h => h) (Or.inl ⟨by kernel_rfl, fun w hw => by (go_simp <;> with_reducible rfl)⟩) hC0 ?_
  go_simp
  refine Rgt.ready (i := 1) (by kernel_rfl) rfl (by kernel_rfl) (fun K hK => ?_)
  go_simp
  refine (HSZ.out _ (HC2.out _ hC0)).mono ?_
  rintro e Y1 ⟨rfl, hb⟩
  have hC1 := HC1.out _ (Kit.step (HC2.out _ hC0) hb)
  clear hb
  refine hK _ _ hC1 ?_
  clear hK K hC0
  rename C _ => hC0
  refine Rgt.take (i := 2) (x := .bool true) rfl rfl (by kernel_rfl) (by kernel_rfl) (by kernel_rfl) (by kernel_rfl) (fun _ _ _ h => h) (Or.inl ⟨by kernel_rfl, fun w hw => by (go_simp <;> with_reducible rfl)⟩) hC0 ?_
  go_simp
  refine Rgt.take (i := 3) (x := .bool true) rfl rfl (by kernel_rfl) (by kernel_rfl) (by kernel_rfl) (by kernel_rfl) (fun _ _ _ h => h) (Or.inl ⟨by kernel_rfl, fun w hw => by (go_simp <;> with_reducible rfl)⟩) hC0 ?_
  go_simp
  refine Rgt.take (i := 4) (x := .slice (some ⟨b1, off1, none⟩) 1 c4) rfl rfl (by kernel_rfl) (by kernel_rfl) (by kernel_rfl) (by kernel_rfl) (fun _ _ _ h => h) (Or.inl ⟨by kernel_rfl, fun w hw => by (go_simp <;> with_reducible rfl)⟩) hC0 ?_
  go_simp
  refine Rgt.take (i := 5) (x := .int .i64 1) rfl rfl (by kernel_rfl) (by kernel_rfl) (by kernel_rfl) (by kernel_rfl) (fun _ _ _ h => h) (Or.inl ⟨by kernel_rfl, fun w hw => by (go_simp <;> with_reducible rfl)⟩) hC0 ?_
  go_simp
  refine Rgt.take (i := 6) (x := .bool true) rfl rfl (by kernel_rfl) (by kernel_rfl) (by kernel_rfl) (by kernel_rfl) (fun _ _ _ h => h) (Or.inl ⟨by kernel_rfl, fun w hw => by (go_simp <;> with_reducible rfl)⟩) hC0 ?_
  go_simp
  refine Rgt.take (i := 7) (x := .bool true) rfl rfl (by kernel_rfl) (by kernel_rfl) (by kernel_rfl) (by kernel_rfl) (fun _ _ _ h => h) (Or.inl ⟨by kernel_rfl, fun w hw => by (go_simp <;> with_reducible rfl)⟩) hC0 ?_
  go_simp
  refine Rgt.take (i := 8) (x := .bool true) rfl rfl (by kernel_rfl) (by kernel_rfl) (by kernel_rfl) (by kernel_rfl) (fun _ _ _ h => h) (Or.inl ⟨by kernel_rfl, fun w hw => by (go_simp <;> with_reducible rfl)⟩) hC0 ?_
  go_simp
  refine Rgt.take (i := 9) (x := .slice (some ⟨b1, off1, none⟩) 1 c4) rfl rfl (by kernel_rfl) (by kernel_rfl) (by kernel_rfl) (by kernel_rfl) (fun _ _ _ h => h) (Or.inl ⟨by kernel_rfl, fun w hw => by (go_simp <;> with_reducible rfl)⟩) hC0 ?_
  go_simp
  refine Rgt.take (i := 10) (x := .pointer (some ⟨b1, off1, none⟩)) rfl rfl (by kernel_rfl) (by kernel_rfl) (by kernel_rfl) (by kernel_rfl) (fun _ _ _ h => h) (Or.inl ⟨by kernel_rfl, fun w hw => by (go_simp <;> with_reducible rfl)⟩) hC0 ?_
  go_simp
  refine Rgt.take (i := 11) (x := .agg LA) rfl rfl (by kernel_rfl) (by kernel_rfl) (by kernel_rfl) (by kernel_rfl) (fun _ _ _ h => h) (Or.inl ⟨by kernel_rfl, fun w hw => exec_mid14 rfl rfl (HLD.out w hw)⟩) hC0 ?_
  go_simp
  refine Rgt.ready (i := 12) (by kernel_rfl) rfl (by kernel_rfl) (fun K hK => ?_)
  go_simp
  rename World => Y1
  obtain ⟨Y2, hY2⟩ : ∃ Y, Y1.alloc (.cells #[.int .u8 7] 5) = Y := ⟨_, rfl⟩
  have hb2 : Below Y1.heap.size Y1 Y2 := by rw [← hY2]; exact new12 _ _
  have hrow2 : RowIs Y2 (some ⟨Y1.heap.size, 0, none⟩) (bytesV [7]) 1 := by rw [← hY2]; exact zrow12 7 Y1
  have hbY := Kit.step (HC2.out _ hC0) hb2
  have hC1 := HC1.out _ hbY
  have LE := rleaf_any [7] (some ⟨Y1.heap.size, 0, none⟩) 1 Y2 hrow2 (HD.out.later (Kit.step HB4.out hbY)) (by simp)
  rw [show ([7] : List UInt8).length = 1 from rfl, HLL.out.1, HLL.out.2.2] at LE
  have HLE := Lib.hid LE
  rw [hY2]
  refine hK _ _ hC1 ?_
  clear hK K hY2 hb2 hrow2 LE hbY hC0
  rename C _ => hC0
  refine Rgt.ready (i := 13) (by kernel_rfl) rfl (by kernel_rfl) (fun K hK => ?_)
  go_simp
  refine HLE.out.mono ?_
  rintro e Y3 ⟨rfl, hb⟩
  have hC1 := HC1.out _ (Kit.step (HC2.out _ hC0) hb)
  clear hb
  refine hK _ _ hC1 ?_
  clear hK K hC0
  rename C _ => hC0
  refine Rgt.take (i := 14) (x := .bool true) rfl rfl (by kernel_rfl) (by kernel_rfl) (by kernel_rfl) (by kernel_rfl) (fun _ _ _ h => h) (Or.inl ⟨by kernel_rfl, fun w hw => by have hc := heq1 w; (go_simp <;> with_reducible rfl)⟩) hC0 ?_
  go_simp
  refine Rgt.take (i := 15) (x := .bool true) rfl rfl (by kernel_rfl) (by kernel_rfl) (by kernel_rfl) (by kernel_rfl) (fun _ _ _ h => h) (Or.inl ⟨by kernel_rfl, fun w hw => by (go_simp <;> with_reducible rfl)⟩) hC0 ?_
  go_simp
  refine Rgt.ready (i := 16) (by kernel_rfl) rfl (by kernel_rfl) (fun K hK => ?_)
  go_simp
  refine hK _ _ hC0 ?_
  clear hK K
  refine Rgt.done (by kernel_rfl) ?_ _
  have HB5 := Lib.hid (Kit.step HB4.out (HC2.out _ hC0))
  clear hC0
  go_wp2_with fail
  go_ret
  exact ⟨rfl, HB5.out⟩
end Go.Proofs.YtfccpfmgkpcnoaaDoor
