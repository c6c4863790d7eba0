/- The code's Fold and Check. The code's Fold, where it refuses; Check. The chapter's example. -/
import Derived.Test.YtjcmihiajpgnjaaDoorPk2
import Derived.Test.YtjcmihiajpgnjaaDoorErr
namespace Go.Proofs.YtjcmihiajpgnjaaDoor
open Go.RowKit
set_option linter.unusedVariables false
set_option linter.unusedSimpArgs false
attribute [local go_sem] Oper.semAt_some
/-- an error's value, by its number -/
def errP (A : Nat → Addr) (b : Nat) : Value := if b = 0 then .nilIface else .iface 137 (.pointer (some (A (b - 1))))
/-- the sentinels of paths -/
structure E13 (W : World) (A : Nat → Addr) : Prop where
  c0 : W.cell? ⟨0, 0, none⟩ = some (.iface 137 (.pointer (some (A 0))))
  c7 : W.cell? ⟨7, 0, none⟩ = some (.iface 137 (.pointer (some (A 7))))
  c14 : W.cell? ⟨14, 0, none⟩ = some (.iface 137 (.pointer (some (A 14))))
theorem E13.later {W W' : World} {A : Nat → Addr} (h : E13 W A) (hb : Below W.heap.size W W') : E13 W' A := by
  have k : ∀ (g : Nat) (v : Value), W.cell? ⟨g, 0, none⟩ = some v → W'.cell? ⟨g, 0, none⟩ = some v := fun g v hc => by
    rw [hb.cell (p := ⟨g, 0, none⟩) (St.cell_lt hc)]; exact hc
  exact ⟨k _ _ h.c0, k _ _ h.c7, k _ _ h.c14⟩
theorem Da.zero_dg : (bytesV (List.replicate 32 0)).toArray.size = 32 := by simp
/-- what made's closure has captured -/
theorem made_world (n i : Int) (ol op : Option Addr) (L cl m cp : Nat) (w : World) (q : Nat) (hq : w.heap.size = q) : ∃ X,
    Calls Tryd.prog 36 #[.int .i64 n, .int .i64 i, .slice ol L cl, .slice op m cp] w (fun e w' =>
      e = .returned (.func (.func 50) #[] #[.pointer (some ⟨q + 2, 0, none⟩), .pointer (some ⟨q + 3, 0, none⟩), .pointer (some ⟨q, 0, none⟩), .pointer (some ⟨q + 1, 0, none⟩)]) ∧ w' = X) ∧
    Below w.heap.size w X ∧ X.heap.size = q + 4 ∧ Boxed X q 3 (.int .i64 n) ∧ Boxed X (q + 1) 3 (.int .i64 i) ∧ Boxed X (q + 2) 40 (.slice ol L cl) ∧ Boxed X (q + 3) 25 (.slice op m cp) := by
  obtain ⟨W1, hW1⟩ : ∃ W1, w.alloc (.cells #[.int .i64 n] 3) = W1 := ⟨_, rfl⟩
  have hs1 : W1.heap.size = q + 1 := by rw [← hW1, World.size_alloc, hq]
  obtain ⟨W2, hW2⟩ : ∃ W2, W1.alloc (.cells #[.int .i64 i] 3) = W2 := ⟨_, rfl⟩
  have hs2 : W2.heap.size = q + 2 := by rw [← hW2, World.size_alloc, hs1]
  obtain ⟨W3, hW3⟩ : ∃ W3, W2.alloc (.cells #[.slice ol L cl] 40) = W3 := ⟨_, rfl⟩
  have hs3 : W3.heap.size = q + 3 := by rw [← hW3, World.size_alloc, hs2]
  obtain ⟨W4, hW4⟩ : ∃ W4, W3.alloc (.cells #[.slice op m cp] 25) = W4 := ⟨_, rfl⟩
  have hs4 : W4.heap.size = q + 4 := by rw [← hW4, World.size_alloc, hs3]
  have hb1 : Below w.heap.size w W1 := by rw [← hW1]; exact new12 _ _
  have hb2 : Below W1.heap.size W1 W2 := by rw [← hW2]; exact new12 _ _
  have hb3 : Below W2.heap.size W2 W3 := by rw [← hW3]; exact new12 _ _
  have hb4 : Below W3.heap.size W3 W4 := by rw [← hW4]; exact new12 _ _
  have x1 : Boxed W1 q 3 (.int .i64 n) := by rw [← hW1, ← hq]; exact Boxed.new _ _ _
  have x2 : Boxed W2 (q + 1) 3 (.int .i64 i) := by rw [← hW2, ← hs1]; exact Boxed.new _ _ _
  have x3 : Boxed W3 (q + 2) 40 (.slice ol L cl) := by rw [← hW3, ← hs2]; exact Boxed.new _ _ _
  have x4 : Boxed W4 (q + 3) 25 (.slice op m cp) := by rw [← hW4, ← hs3]; exact Boxed.new _ _ _
  have MM := mmade_any n i ol op L cl m cp w
  rw [hW1, hW2, hW3, hW4, hq] at MM
  exact ⟨W4, MM, Kit.step (Kit.step (Kit.step hb1 hb2) hb3) hb4, hs4, boxed_later (boxed_later (boxed_later x1 hb2) hb3) hb4, boxed_later (boxed_later x2 hb3) hb4, boxed_later x3 hb4, x4⟩
/-- between two rounds of Fold -/
structure FoI (bb : Nat → List UInt8) (g : Nat) (W : World) (M : Rf.Blk) (s : Nat) (v : Value) (X : World) : Prop where
  box : Boxed X g 40 v
  els : Rf.Mut (fun k => k = g) W X
  val : s = 0 ∨ ∃ gb cb, v = .slice (some ⟨gb, 0, none⟩) (bb (s - 1)).length cb ∧ Buf X gb cb (bb (s - 1)) ∧ ¬ M gb ∧ gb ≠ W.heap.size ∧ gb ≠ W.heap.size + 1
  lt : g < W.heap.size
theorem FoI.mut {bb : Nat → List UInt8} {g : Nat} {W : World} {M : Rf.Blk} {s : Nat} {v : Value} {X X' : World} (h : FoI bb g W M s v X) (hM : ∀ k, M k → W.heap.size + 2 ≤ k) (k : Rf.Mut (Rf.own2 W.heap.size M) X X') : FoI bb g W M s v X' := by
  have hn : ∀ k, k < W.heap.size → ¬ Rf.own2 W.heap.size M k := fun k hk hh => by
    rcases hh with h1 | h1 | h1
    · have := hM k h1; omega
    · omega
    · omega
  refine ⟨box_block h.box (k.same _ h.box.lt (hn _ h.lt)), ⟨k.os.trans h.els.os, k.tape.trans h.els.tape, k.output.trans h.els.output, Nat.le_trans h.els.size k.size, fun i hi hng => (k.same i (Nat.lt_of_lt_of_le hi h.els.size) (hn i hi)).trans (h.els.same i hi hng)⟩, ?_, h.lt⟩
  rcases h.val with h0 | ⟨gb, cb, e, hb, h1, h2, h3⟩
  · exact .inl h0
  · refine .inr ⟨gb, cb, e, hb.block (k.same gb hb.lt fun hh => ?_), h1, h2, h3⟩
    rcases hh with h4 | h4 | h4
    · exact h1 h4
    · exact h2 h4
    · exact h3 h4
theorem FoI.keep {bb : Nat → List UInt8} {g : Nat} {W : World} {M : Rf.Blk} {s : Nat} {v : Value} {X : World} (h : FoI bb g W M s v X) {q : Nat} {t : TypeId} {u : Value} (hb : Boxed W q t u) (hq : q ≠ g) : Boxed X q t u := box_block hb (h.els.same q hb.lt hq)
set_option maxRecDepth 100000 in
set_option maxHeartbeats 4000000 in
theorem pfold_of (Z : Array Value) (hZ : Z = (bytesV (List.replicate 32 0)).toArray) (hzs : ∀ w, Sem.run Tryd.prog (zeroValue 38) w = .ok (.agg Z) w)
    (leaf : List UInt8) (ol : Option Addr) (cl : Nat) (ps : List (List UInt8)) (op : Option Addr) (m cp n i : Nat) (hm : ps.length = m) (hu : (Da.ups n i).length = m) (hi : i < n) (h5 : n ≤ 512) (hl5 : leaf.length ≤ 8900) (w : World)
    (hR : RowIs w ol (bytesV leaf) cl) (hP : DgIs w op ps cp) (hV : Cds w) :
    Calls Tryd.prog 21 #[.int .i64 (n : Int), .int .i64 (i : Int), .slice ol leaf.length cl, .slice op m cp] w fun e w' => e = .returned (.tuple #[.agg (bytesV (Da.fs (Da.lf leaf) (Da.ups n i) ps m)).toArray, .nilIface]) ∧ Below w.heap.size w w' := by
  obtain ⟨g, hg⟩ : ∃ g, w.heap.size = g := ⟨_, rfl⟩
  obtain ⟨W1, hW1⟩ : ∃ W1, w.alloc (Obj.cells Z 38) = W1 := ⟨_, rfl⟩
  have hb1 : Below w.heap.size w W1 := by rw [← hW1]; exact new12 _ _
  have hA1 : Arr W1 g 38 Z.toList := by rw [← hW1, ← hg]; exact Arr.made _ _ _
  have PL := plen_any n i hi h5 W1
  rw [hu] at PL
  have hm9 : m ≤ 9 := by rw [← hu]; exact Da.ups_nine h5 i
  have hfl := Da.fs_length (Da.lf_length leaf) (Da.ups n i) ps m
  have hsh := Da.sha_mb (0 :: leaf) (Da.ups n i) ps m
  rw [show Da.sha (0 :: leaf) = Da.lf leaf from rfl] at hsh
  obtain ⟨F, hF⟩ : ∃ F, (bytesV (Da.fs (Da.lf leaf) (Da.ups n i) ps m)).toArray = F := ⟨_, rfl⟩
  have HFS : Hid ((Tryd.prog.info? 38).map (·.size) = some F.size) := Lib.hid (by rw [dg_info, ← hF]; simp [hfl])
  have HFO : Hid (F.all (·.oneCell') = true) := Lib.hid (by rw [← hF]; exact all_oneCell_toArray (bytesV_one _))
  have HFZ : Hid (Z.size = F.size) := Lib.hid (by rw [hZ, ← hF]; simp [hfl])
  have hd1 : decide ((m : Int) < 0) = false := decide_eq_false (by omega)
  have MG := made_gives leaf ol cl ps op m cp n i
  obtain ⟨L, hL⟩ : ∃ L, leaf.length = L := ⟨_, rfl⟩
  have HMG := Lib.hid (fun QL QP QN QI => MG QL QP QN QI hm hu hi h5 hl5)
  have HF := Lib.hid hF
  have HL := Lib.hid hL
  have HPL := Lib.hid PL
  have HW1 := Lib.hid hW1
  have HB1 := Lib.hid hb1
  have HA1 := Lib.hid hA1
  have HG := Lib.hid hg
  have HSH := Lib.hid hsh
  have HR := Lib.hid (hR.later hb1)
  have HP := Lib.hid (hP.later hb1)
  have HV := Lib.hid (hV.later hb1)
  have HHM := Lib.hid hm
  rw [HF.out, HL.out]
  clear MG hF hL PL hW1 hb1 hA1 hg hsh hfl hR hP hV hu hi hZ hm
  refine Rf.calls_marks Tryd.func21 rfl ?_
  simp only [Tryd.ntmps21, List.size_toArray, List.length_cons, List.length_nil, Nat.reduceAdd, Nat.reduceSub, Array.replicate_succ, Array.replicate_zero, List.push_toArray, List.append_toArray, List.nil_append, List.cons_append]
  go_upto_region 1 with fail
  rw [HW1.out, HG.out]
  go_wp2_with fail
  refine HPL.out.mono ?_
  rintro e W2 ⟨rfl, hb2⟩
  have HB2 := Lib.hid hb2
  clear hb2 HPL
  go_upto_region 7 with fail
  obtain ⟨q, hq⟩ : ∃ q, W2.heap.size = q := ⟨_, rfl⟩
  obtain ⟨W3, hW3⟩ : ∃ W3, W2.alloc (.cells #[.slice none 0 0] 40) = W3 := ⟨_, rfl⟩
  have hb3 : Below W2.heap.size W2 W3 := by rw [← hW3]; exact new12 _ _
  have hs3 : W3.heap.size = q + 1 := by rw [← hW3, World.size_alloc, hq]
  have hx3 : Boxed W3 q 40 (.slice none 0 0) := by rw [← hW3, ← hq]; exact Boxed.new _ _ _
  obtain ⟨W4, MM, hb4, hs4, hbn, hbi, hbl, hbp⟩ := made_world (n : Int) (i : Int) ol op L cl m cp W3 (q + 1) hs3
  have hB14 := Kit.step (Kit.step HB2.out hb3) hb4
  have hB4 := Kit.step HB1.out hB14
  have hA4 : Arr W4 g 38 Z.toList := HA1.out.later hB14 HA1.out.lt
  have hx4 := boxed_later hx3 hb4
  have HPRE : Hid (∀ X, Rf.Mut (fun k => k = q) W4 X → Boxed X (q + 1 + 2) 40 (.slice ol leaf.length cl) ∧ Boxed X (q + 1 + 3) 25 (.slice op m cp) ∧ Boxed X (q + 1) 3 (.int .i64 (n : Int)) ∧ Boxed X (q + 1 + 1) 3 (.int .i64 (i : Int)) ∧ RowIs X ol (bytesV leaf) cl ∧ DgIs X op ps cp ∧ Cds X) := Lib.hid fun X hX => by
    have hk : ∀ {b : Nat} {t : TypeId} {u : Value}, Boxed W4 b t u → b ≠ q → Boxed X b t u := fun hb hne => box_block hb (hX.same _ hb.lt hne)
    have hq1 : W1.heap.size ≤ q := by have := HB2.out.size; omega
    have hbx : Below W1.heap.size W1 X := hB14.trans (hX.below (fun k hk e => by omega) hB14.size)
    refine ⟨by rw [HL.out]; exact hk hbl (by omega), hk hbp (by omega), hk hbn (by omega), hk hbi (by omega), HR.out.later hbx, HP.out.later hbx, HV.out.later hbx⟩
  have HMM := Lib.hid MM
  have HW3 := Lib.hid hW3
  have HB14 := Lib.hid hB14
  have HB4 := Lib.hid hB4
  have HA4 := Lib.hid hA4
  have HQ := Lib.hid hq
  have hgq : g < q := by have := HA1.out.lt; have := HB2.out.size; omega
  have HGQ := Lib.hid hgq
  have HS4 := Lib.hid hs4
  have HI0 : Hid (∀ M, FoI (Da.mbs (0 :: leaf) (Da.ups n i) ps) q W4 M 0 (.slice none 0 0) W4) := Lib.hid fun M => ⟨hx4, Rf.Mut.refl _ _, .inl rfl, hx4.lt⟩
  rw [hq]
  clear hq hW3 hb3 hs3 hx3 MM hb4 hs4 hbn hbi hbl hbp hB14 hB4 hA4 hx4 hgq
  rw [HW3.out]
  go_wp2_with fail
  refine HMM.out.mono ?_
  rintro e w4 ⟨rfl, rfl⟩
  rename World => W4
  clear HMM HW3
  go_wp2_with fail
  refine Rf.range_toldM (α := Nat × Nat × List UInt8) (σ := Nat) rfl (enters_of Tryd.func50 (by kernel_rfl) rfl) (fun x => #[.slice (some ⟨x.1, 0, none⟩) x.2.2.length x.2.1]) (fun _ => rfl) _ _ _ _ (HMG.out (q + 1 + 2) (q + 1 + 3) (q + 1) (q + 1 + 1))
    (fun k => k = q)
    (fun O M s X => (∀ k, O k ↔ k = q) ∧ ∃ v, FoI (Da.mbs (0 :: leaf) (Da.ups n i) ps) q W4 M s v X)
    (fun c O M X => False)
    ?hO0 ?hI ?hIx ?hP ?hV ?h0 ?round ?done ?stop
  case hO0 =>
    rintro k rfl
    have := HS4.out
    omega
  case hI => exact fun O M s X X' hM ⟨hO, v, h⟩ k => ⟨hO, v, h.mut hM k⟩
  case hIx => exact fun c O M X X' hM h k => h
  case hP => exact fun O M s X ⟨_, v, h⟩ => HPRE.out X h.els
  case hV => exact fun M s x s' X X' h k => ⟨h.1, h.2.1, h.2.2.1, h.2.2.2.1.nc k, h.2.2.2.2⟩
  case h0 => exact fun M hM => ⟨fun _ => Iff.rfl, _, HI0.out M⟩
  case round =>
    rintro l O M s x s' X Z' To hM hMX hOX hDX ⟨hO, v, hI⟩ ⟨rfl, hsm, hx, hbuf, hnm⟩ hsz hrec hdef HN' HR' HE'
    obtain ⟨gb, cb, B⟩ := x
    dsimp only at hx hbuf hnm
    have HX := Lib.hid hx
    have HBUF := Lib.hid hbuf
    have HNM := Lib.hid hnm
    have HII := Lib.hid hI
    have HO := Lib.hid hO
    have HOX := Lib.hid hOX
    have HMX := Lib.hid hMX
    have HDX := Lib.hid hDX
    have HSZ := Lib.hid hsz
    obtain ⟨cur, hcur⟩ := hbuf.cells
    have hg1 : gb ≠ W4.heap.size := fun e => by
      rw [e, hdef] at hcur
      cases hcur
    have hg2 : gb ≠ W4.heap.size + 1 := fun e => by
      obtain ⟨r, hr⟩ := hrec
      rw [e, hr] at hcur
      cases hcur
    have HGD := Lib.hid (And.intro hg1 hg2)
    clear hg1 hg2
    clear hx hbuf hnm hI hO hOX hMX hDX hsz hM hrec hdef hcur cur
    gi_wp2
    refine ⟨Below.refl _ _, fun Y hY hnew hsy => ?_⟩
    have hbY := boxed_later HII.out.box hY
    have hc := hbY.cell
    have hf := hbY.frozen
    obtain ⟨Y2, hY2⟩ : ∃ Y2, Y.setCell ⟨q, 0, none⟩ (.slice (some ⟨gb, 0, none⟩) B.length cb) = Y2 := ⟨_, rfl⟩
    have hbufY := HBUF.out.later hY
    have hne := hbufY.ne hbY (by decide)
    have hgr : Y.grownBy Y2 (some q) := by rw [← hY2]; exact grownBy_setCell' _ _ _
    have hOY : ∀ k, O k → k < Y.heap.size := fun k hk => Nat.lt_of_lt_of_le (HOX.out k hk).1 hY.size
    have HFI : Hid (Rf.Fr O X O Y2 ∧ ∃ v, FoI (Da.mbs (0 :: leaf) (Da.ups n i) ps) q W4 M (s + 1) v Y2) := Lib.hid
      ⟨(Rf.Fr.of_below hY (fun k hk => (HOX.out k hk).1)).trans (Rf.Fr.grown hgr hOY (fun k e => by cases e; exact (HO.out _).2 rfl)), .slice (some ⟨gb, 0, none⟩) B.length cb,
        by rw [← hY2]; exact hbY.set _, HII.out.els.trans ((Rf.Mut.of_below hY).trans (Rf.Mut.grown hgr (fun k e => by cases e; rfl))),
        .inr ⟨gb, cb, by rw [Nat.add_sub_cancel, ← HX.out], by rw [Nat.add_sub_cancel, ← HX.out]; exact hbufY.block (hgr.block gb hbufY.lt (by simp; exact hne)), HNM.out, HGD.out⟩, HII.out.lt⟩
    have HY2 := Lib.hid hY2
    clear hbY hY2 hbufY hne hgr hOY hY hnew hsy
    gi_wp2
    rw [HY2.out]
    exact HN'.out _ _ _ HFI.out.1 ⟨HO.out, HFI.out.2⟩
  case done =>
    rintro O M s X hM hMX hOX hD1 rfl ⟨hO, v, hI⟩ hK'
    have hb4X := hI.els.below (n := g + 1) (fun k hk e => by have := HGQ.out; omega) (by have := HS4.out; have := HGQ.out; omega)
    rcases hI.val with h0 | ⟨gb, cb, hv, hbuf, hnm, hgd⟩
    · cases h0
    rw [Nat.add_sub_cancel] at hv hbuf
    obtain ⟨B, hB⟩ : ∃ B, Da.mbs (0 :: leaf) (Da.ups n i) ps m = B := ⟨_, rfl⟩
    have hSB : Da.sha B = Da.fs (Da.lf leaf) (Da.ups n i) ps m := by rw [← hB]; exact HSH.out
    rw [hB] at hv hbuf
    subst hv
    have hc := hI.box.cell
    have hpre := HPRE.out X hI.els
    have hBl : B.length ≤ 9000 := by
      rw [← hB]
      cases m with
      | zero => show (0 :: leaf).length ≤ 9000; rw [List.length_cons]; omega
      | succ m' => rw [Da.mbs_len _ _ _ _ (hpre.2.2.2.2.2.1.all.at_ (by rw [HHM.out]; omega))]; omega
    obtain ⟨X2, hX2⟩ : ∃ X2, X.alloc (.cells #[.slice (some ⟨gb, 0, none⟩) B.length cb] 40) = X2 := ⟨_, rfl⟩
    have hba := new12 X (.cells #[.slice (some ⟨gb, 0, none⟩) B.length cb] 40)
    have hone := one_part hbuf.row
    rw [hX2] at hone hba
    have SO := sof_any [B] _ 1 X2 hone (hpre.2.2.2.2.2.2.later hba) (by simp; omega) (by simp)
    rw [show ([B] : List (List UInt8)).flatten = B by simp, List.length_singleton, hSB, HF.out] at SO
    have hgW : W4.heap[g]? = some (.cells Z 38 (0, 0)) := HA4.out
    have hgX : X.heap[g]? = some (.cells Z 38 (0, 0)) := by rw [hb4X.block g (by omega)]; exact hgW
    have hgX2 : X2.heap[g]? = some (.cells Z 38 (0, 0)) := by rw [hba.block g (Array.getElem?_eq_some_iff.1 hgX).1]; exact hgX
    have HGX2 := Lib.hid hgX2
    have HSO := Lib.hid SO
    have HX2 := Lib.hid hX2
    have HBA := Lib.hid hba
    have HKK := Lib.hid hK'
    have HWX : Hid (Below w.heap.size w X) := Lib.hid (HB4.out.trans (hb4X.mono (by have := HG.out; omega)))
    clear hI hO hb4X hbuf hgd hnm hB hSB hpre hone hX2 SO hgW hgX hgX2 hba hK' hMX hOX hM hD1
    go_upto_region 10 with fail
    apply wp_region_lit
    (refine wpList_plain rfl (fun K hK => ?_); go_simp; refine hK _ _ ?_; clear hK K)
    (refine wpList_plain rfl (fun K hK => ?_); go_simp; refine hK _ _ ?_; clear hK K)
    rw [HX2.out]
    (refine wpList_plain rfl (fun K hK => ?_); go_simp)
    refine HSO.out.mono ?_
    rintro e X3 ⟨rfl, hb3⟩
    refine hK _ _ ?_
    clear hK K HSO
    have hgX3 : X3.heap[g]? = some (.cells Z 38 (0, 0)) := by rw [hb3.block g (Array.getElem?_eq_some_iff.1 HGX2.out).1]; exact HGX2.out
    have HGX3 := Lib.hid hgX3
    have hbX3 := Kit.step HBA.out hb3
    have hlt4 : W4.heap.size < X.heap.size := (Array.getElem?_eq_some_iff.1 HKK.out).1
    have hneg : W4.heap.size ≠ g := by have := HS4.out; have := HGQ.out; omega
    have hK3 : (X3.setRow g F).heap[W4.heap.size]? = some (.deferred (some [])) := by rw [setRow_other X3 g _ F (by omega), hbX3.block _ hlt4]; exact HKK.out
    have HK3 := Lib.hid hK3
    have hg4 : ((X3.setRow g F).putObj W4.heap.size (.deferred none)).heap[g]? = some (.cells F 38 (0, 0)) := by
      rw [World.putObj_heap_other (by omega)]
      exact setRow_heap _ _ _ _ _ _ hgX3
    have HG4 := Lib.hid hg4
    have HBW : Hid (Below w.heap.size w ((X3.setRow g F).putObj W4.heap.size (.deferred none))) := Lib.hid
      (((Kit.step HWX.out hbX3).trans (below_row (Nat.le_of_eq HG.out))).trans (belowK_b (w := w) (Nat.le_refl _) (X3.setRow g F) W4.heap.size _ _ (by have := HB4.out.size; omega) hK3 rfl rfl))
    clear hb3 hgX3 hbX3 hlt4 hneg hK3 hg4
    refine wpList_store_row rfl 38 (.tmp 8) (.tmp 35) rfl g F rfl rfl 38 Z HGX3.out HFS.out HFZ.out HFO.out ?_
    go_wp2_with fail
    refine Rf.leaves HK3.out (results_cell_row2 rfl _ _ g 38 F (0, 0) _ rfl HG4.out dg_under rfl HFS.out) ?_
    exact ⟨rfl, HBW.out⟩
  case stop => exact fun c O M X hM h => h.elim
theorem pfold_any (leaf : List UInt8) (ol : Option Addr) (cl : Nat) (ps : List (List UInt8)) (op : Option Addr) (m cp n i : Nat) (hm : ps.length = m) (hu : (Da.ups n i).length = m) (hi : i < n) (h5 : n ≤ 512) (hl5 : leaf.length ≤ 8900) (w : World)
    (hR : RowIs w ol (bytesV leaf) cl) (hP : DgIs w op ps cp) (hV : Cds w) :
    Calls Tryd.prog 21 #[.int .i64 (n : Int), .int .i64 (i : Int), .slice ol leaf.length cl, .slice op m cp] w fun e w' => e = .returned (.tuple #[.agg (bytesV (Da.fs (Da.lf leaf) (Da.ups n i) ps m)).toArray, .nilIface]) ∧ Below w.heap.size w w' :=
  pfold_of _ rfl dg_zero leaf ol cl ps op m cp n i hm hu hi h5 hl5 w hR hP hV
end Go.Proofs.YtjcmihiajpgnjaaDoor
namespace Go.Proofs.YtjcmihiajpgnjaaDoor
open Go.RowKit
set_option linter.unusedVariables false
set_option linter.unusedSimpArgs false
theorem dgq_neq (xs ys : List UInt8) (hx : xs.length = 32) (hy : ys.length = 32) (w : World) : (binOp .neq 38 (.agg (bytesV xs).toArray) (.agg (bytesV ys).toArray)).run Tryd.prog w = .ok (.bool (!(xs == ys))) w := by
  have h := run_equalIn_bytes (P := Tryd.prog) w 9998 38 5 32 dg_under Tryd.underlying5 (fun w => by
    obtain ⟨i0, hi, _, hz1, _⟩ := info_parts info_u8
    simp [sizeOf, typeInfo, hi, hz1]) xs ys hx hy
  have h' : (Op.equalIn 10000 38 (.agg (bytesV xs).toArray) (.agg (bytesV ys).toArray)).run Tryd.prog w = .ok (xs == ys) w := h
  rw [run_neq_struct, h']
  rfl
theorem dg_built13 : Tryd.prog.built 38 [] = some (bytesV (List.replicate 32 0)).toArray := by kernel_rfl
theorem neq_nil13 (v : World) : (binOp .neq 27 .nilIface .nilIface).run Tryd.prog v = .ok (.bool false) v := by kernel_rfl
set_option maxRecDepth 100000 in
set_option maxHeartbeats 2000000 in
theorem pfold_range_of (Z : Array Value) (hZ : Z = (bytesV (List.replicate 32 0)).toArray) (hzs : ∀ w, Sem.run Tryd.prog (zeroValue 38) w = .ok (.agg Z) w) (hbu : Tryd.prog.built 38 [] = some Z)
    (n i : Int) (lv : Value) (op : Option Addr) (m cp : Nat) (hbad : ¬ (0 ≤ i ∧ i < n ∧ n ≤ 512)) (A : Nat → Addr) (w : World) (hA : E13 w A) :
    Calls Tryd.prog 21 #[.int .i64 n, .int .i64 i, lv, .slice op m cp] w fun e w' => e = .returned (.tuple #[.agg Z, errP A 1]) ∧ Below w.heap.size w w' := by
  obtain ⟨g, hg⟩ : ∃ g, w.heap.size = g := ⟨_, rfl⟩
  obtain ⟨W1, hW1⟩ : ∃ W1, w.alloc (Obj.cells Z 38) = W1 := ⟨_, rfl⟩
  have hb1 : Below w.heap.size w W1 := by rw [← hW1]; exact new12 _ _
  have hA1 : Arr W1 g 38 Z.toList := by rw [← hW1, ← hg]; exact Arr.made _ _ _
  have hE1 := hA.later hb1
  have hgne : (0 : Nat) ≠ g := by have := St.cell_lt hA.c0; omega
  have HGN := Lib.hid hgne
  have PL := (plen_bad n i hbad W1).mono (R' := fun e w' => e = .returned (.int .i64 (-1)) ∧ Below W1.heap.size W1 w') (fun e w' h => ⟨h.1, by rw [h.2]; exact Below.refl _ _⟩)
  have HPL := Lib.hid PL
  clear PL
  have HZS : Hid (Z.size = Z.size) := Lib.hid rfl
  have HZI : Hid ((Tryd.prog.info? 38).map (·.size) = some Z.size) := Lib.hid (by rw [dg_info, hZ]; simp)
  have HZO : Hid (Z.all (·.oneCell') = true) := Lib.hid (by rw [hZ]; exact all_oneCell_toArray (bytesV_one _))
  have HB1 := Lib.hid hb1
  have HA1 := Lib.hid hA1
  have HE1 := Lib.hid hE1
  have HW1 := Lib.hid hW1
  have HG := Lib.hid hg
  have HBU := Lib.hid hbu
  clear hb1 hA1 hE1 hW1 hg hZ hA hbu hgne
  go_enter Tryd.func21, Tryd.ntmps21
  go_upto_region 1 with fail
  rw [HW1.out, HG.out]
  clear HW1
  go_wp2_with fail
  refine HPL.out.mono ?_
  rintro e W2 ⟨rfl, hb2⟩
  have hA2 := HA1.out.later hb2 HA1.out.lt
  have hE2 := HE1.out.later hb2
  have HB2 := Lib.hid (Kit.step HB1.out hb2)
  obtain ⟨C, hC⟩ : ∃ C : World → Prop, (fun v : World => v.heap[g]? = some (.cells Z 38 (0, 0)) ∧ v.cell? ⟨0, 0, none⟩ = some (.iface 137 (.pointer (some (A 0)))) ∧ Below w.heap.size w v) = C := ⟨_, rfl⟩
  have HC2 : Hid (∀ v, C v → v.heap[g]? = some (.cells Z 38 (0, 0)) ∧ v.cell? ⟨0, 0, none⟩ = some (.iface 137 (.pointer (some (A 0)))) ∧ Below w.heap.size w v) := Lib.hid fun v hv => by rw [← hC] at hv; exact hv
  have HC1 : Hid (∀ v, v.heap[g]? = some (.cells Z 38 (0, 0)) → v.cell? ⟨0, 0, none⟩ = some (.iface 137 (.pointer (some (A 0)))) → Below w.heap.size w v → C v) := Lib.hid fun v h1 h2 h3 => by rw [← hC]; exact ⟨h1, h2, h3⟩
  have hC0 : C W2.drew := HC1.out _ hA2 hE2.c0 (Kit.step HB2.out (Kit.dn' W2 1))
  clear hC hA2 hE2 hb2 HPL
  go_upto_region 3 with fail
  refine Rgt.region C (fun _ => false) (by kernel_rfl) ?_
  refine Rgt.take (i := 0) (x := .agg Z) rfl rfl (by kernel_rfl) (by kernel_rfl) (by kernel_rfl) (by kernel_rfl) (fun _ _ _ h => h) (Or.inl ⟨by kernel_rfl, fun w hw => exec_build rfl HBU.out w⟩) hC0 ?_
  go_simp
  refine Rgt.take (i := 1) (x := .iface 137 (.pointer (some (A 0)))) rfl rfl (by kernel_rfl) (by kernel_rfl) (by kernel_rfl) (by kernel_rfl) (fun _ _ _ h => h) (Or.inl ⟨by kernel_rfl, fun w hw => by have hc := (HC2.out w hw).2.1; (go_simp <;> with_reducible rfl)⟩) hC0 ?_
  go_simp
  have hgw := (HC2.out _ hC0).1
  have hcw := (HC2.out _ hC0).2.1
  have hbw := (HC2.out _ hC0).2.2
  obtain ⟨W3, hW3⟩ : ∃ W3, W2.drew = W3 := ⟨_, rfl⟩
  rw [hW3] at hgw hcw hbw ⊢
  have hb4 : Below w.heap.size w (W3.setRow g Z) := hbw.trans (below_row (Nat.le_of_eq HG.out))
  have hg4 : (W3.setRow g Z).heap[g]? = some (.cells Z 38 (0, 0)) := setRow_heap _ _ _ _ _ _ hgw
  have hc4 : (W3.setRow g Z).cell? ⟨0, 0, none⟩ = some (.iface 137 (.pointer (some (A 0)))) := by
    rw [World.cell?_of_block (a := ⟨0, 0, none⟩) (setRow_other W3 g 0 Z HGN.out)]
    exact hcw
  have hC4 := HC1.out _ hg4 hc4 hb4
  have HG4 := Lib.hid hg4
  have HB4 := Lib.hid hb4
  clear hC0 hcw hbw hb4 hg4 hc4
  refine Rgt.ready (i := 2) (by kernel_rfl) rfl (by kernel_rfl) (fun K hK => ?_)
  refine wp_store_row 38 (.tmp 8) (.tmp 18) rfl g Z rfl rfl 38 Z hgw HZI.out rfl HZO.out (hK _ _ hC4 ?_)
  clear hK K hgw
  refine Rgt.ready (i := 3) (by kernel_rfl) rfl (by kernel_rfl) (fun K hK => ?_)
  go_simp
  refine hK _ _ hC4 ?_
  clear hK K
  refine Rgt.done (by kernel_rfl) ?_ _
  go_wp2_with fail
  refine bodyPost_ret (results_cell_row2 rfl _ _ g 38 Z (0, 0) _ rfl HG4.out dg_under rfl HZI.out) rfl ?_
  exact ⟨rfl, HB4.out⟩
theorem pfold_range_any (n i : Int) (lv : Value) (op : Option Addr) (m cp : Nat) (hbad : ¬ (0 ≤ i ∧ i < n ∧ n ≤ 512)) (A : Nat → Addr) (w : World) (hA : E13 w A) :
    Calls Tryd.prog 21 #[.int .i64 n, .int .i64 i, lv, .slice op m cp] w fun e w' => e = .returned (.tuple #[.agg (bytesV (List.replicate 32 0)).toArray, errP A 1]) ∧ Below w.heap.size w w' := pfold_range_of _ rfl dg_zero dg_built13 n i lv op m cp hbad A w hA
set_option maxRecDepth 100000 in
set_option maxHeartbeats 2000000 in
theorem pfold_size_of (Z : Array Value) (hZ : Z = (bytesV (List.replicate 32 0)).toArray) (hzs : ∀ w, Sem.run Tryd.prog (zeroValue 38) w = .ok (.agg Z) w) (hbu : Tryd.prog.built 38 [] = some Z)
    (n i : Int) (lv : Value) (op : Option Addr) (m cp : Nat) (hn0 : 0 ≤ n) (hi0 : 0 ≤ i) (hin : i < n) (hn5 : n ≤ 512) (hne : m ≠ (Da.ups n.toNat i.toNat).length) (hmm : m ≤ 1000000) (A : Nat → Addr) (w : World) (hA : E13 w A) :
    Calls Tryd.prog 21 #[.int .i64 n, .int .i64 i, lv, .slice op m cp] w fun e w' => e = .returned (.tuple #[.agg Z, errP A 8]) ∧ Below w.heap.size w w' := by
  obtain ⟨g, hg⟩ : ∃ g, w.heap.size = g := ⟨_, rfl⟩
  obtain ⟨W1, hW1⟩ : ∃ W1, w.alloc (Obj.cells Z 38) = W1 := ⟨_, rfl⟩
  have hb1 : Below w.heap.size w W1 := by rw [← hW1]; exact new12 _ _
  have hA1 : Arr W1 g 38 Z.toList := by rw [← hW1, ← hg]; exact Arr.made _ _ _
  have hE1 := hA.later hb1
  have hgne : (7 : Nat) ≠ g := by have := St.cell_lt hA.c7; omega
  have HGN := Lib.hid hgne
  have PL := plen_any n.toNat i.toNat (by omega) (by omega) W1
  rw [show ((n.toNat : Nat) : Int) = n by omega, show ((i.toNat : Nat) : Int) = i by omega] at PL
  have h9 := Da.ups_nine (n := n.toNat) (by omega) i.toNat
  obtain ⟨u, hu⟩ : ∃ u, (Da.ups n.toNat i.toNat).length = u := ⟨_, rfl⟩
  rw [hu] at PL h9 hne
  have hd1 : decide ((u : Int) < 0) = false := decide_eq_false (by omega)
  have hd2 : decide ((m : Int) ≠ (u : Int)) = true := decide_eq_true (by omega)
  have hd3 : decide (m = u) = false := decide_eq_false hne
  have hd4 : ((m : Int) != (u : Int)) = true := by simp; omega
  have HNE := Lib.hid hne
  have HPL := Lib.hid PL
  clear PL hu hne
  have HZS : Hid (Z.size = Z.size) := Lib.hid rfl
  have HZI : Hid ((Tryd.prog.info? 38).map (·.size) = some Z.size) := Lib.hid (by rw [dg_info, hZ]; simp)
  have HZO : Hid (Z.all (·.oneCell') = true) := Lib.hid (by rw [hZ]; exact all_oneCell_toArray (bytesV_one _))
  have HB1 := Lib.hid hb1
  have HA1 := Lib.hid hA1
  have HE1 := Lib.hid hE1
  have HW1 := Lib.hid hW1
  have HG := Lib.hid hg
  have HBU := Lib.hid hbu
  clear hb1 hA1 hE1 hW1 hg hZ hA hbu hgne
  go_enter Tryd.func21, Tryd.ntmps21
  go_upto_region 1 with fail
  rw [HW1.out, HG.out]
  clear HW1
  go_wp2_with fail
  refine HPL.out.mono ?_
  rintro e W2 ⟨rfl, hb2⟩
  have hA2 := HA1.out.later hb2 HA1.out.lt
  have hE2 := HE1.out.later hb2
  have HB2 := Lib.hid (Kit.step HB1.out hb2)
  obtain ⟨C, hC⟩ : ∃ C : World → Prop, (fun v : World => v.heap[g]? = some (.cells Z 38 (0, 0)) ∧ v.cell? ⟨7, 0, none⟩ = some (.iface 137 (.pointer (some (A 7)))) ∧ Below w.heap.size w v) = C := ⟨_, rfl⟩
  have HC2 : Hid (∀ v, C v → v.heap[g]? = some (.cells Z 38 (0, 0)) ∧ v.cell? ⟨7, 0, none⟩ = some (.iface 137 (.pointer (some (A 7)))) ∧ Below w.heap.size w v) := Lib.hid fun v hv => by rw [← hC] at hv; exact hv
  have HC1 : Hid (∀ v, v.heap[g]? = some (.cells Z 38 (0, 0)) → v.cell? ⟨7, 0, none⟩ = some (.iface 137 (.pointer (some (A 7)))) → Below w.heap.size w v → C v) := Lib.hid fun v h1 h2 h3 => by rw [← hC]; exact ⟨h1, h2, h3⟩
  have hC0 : C W2.drew := HC1.out _ hA2 hE2.c7 (Kit.step HB2.out (Kit.dn' W2 1))
  clear hC hA2 hE2 hb2 HPL
  go_upto_region 5 with fail
  refine Rgt.region C (fun _ => false) (by kernel_rfl) ?_
  refine Rgt.take (i := 0) (x := .agg Z) rfl rfl (by kernel_rfl) (by kernel_rfl) (by kernel_rfl) (by kernel_rfl) (fun _ _ _ h => h) (Or.inl ⟨by kernel_rfl, fun w hw => exec_build rfl HBU.out w⟩) hC0 ?_
  go_simp
  refine Rgt.take (i := 1) (x := .iface 137 (.pointer (some (A 7)))) rfl rfl (by kernel_rfl) (by kernel_rfl) (by kernel_rfl) (by kernel_rfl) (fun _ _ _ h => h) (Or.inl ⟨by kernel_rfl, fun w hw => by have hc := (HC2.out w hw).2.1; (go_simp <;> with_reducible rfl)⟩) hC0 ?_
  go_simp
  have hgw := (HC2.out _ hC0).1
  have hcw := (HC2.out _ hC0).2.1
  have hbw := (HC2.out _ hC0).2.2
  obtain ⟨W3, hW3⟩ : ∃ W3, W2.drew = W3 := ⟨_, rfl⟩
  rw [hW3] at hgw hcw hbw ⊢
  have hb4 : Below w.heap.size w (W3.setRow g Z) := hbw.trans (below_row (Nat.le_of_eq HG.out))
  have hg4 : (W3.setRow g Z).heap[g]? = some (.cells Z 38 (0, 0)) := setRow_heap _ _ _ _ _ _ hgw
  have hc4 : (W3.setRow g Z).cell? ⟨7, 0, none⟩ = some (.iface 137 (.pointer (some (A 7)))) := by
    rw [World.cell?_of_block (a := ⟨7, 0, none⟩) (setRow_other W3 g 7 Z HGN.out)]
    exact hcw
  have hC4 := HC1.out _ hg4 hc4 hb4
  have HG4 := Lib.hid hg4
  have HB4 := Lib.hid hb4
  clear hC0 hcw hbw hb4 hg4 hc4
  refine Rgt.ready (i := 2) (by kernel_rfl) rfl (by kernel_rfl) (fun K hK => ?_)
  refine wp_store_row 38 (.tmp 8) (.tmp 24) rfl g Z rfl rfl 38 Z hgw HZI.out rfl HZO.out (hK _ _ hC4 ?_)
  clear hK K hgw
  refine Rgt.ready (i := 3) (by kernel_rfl) rfl (by kernel_rfl) (fun K hK => ?_)
  go_simp
  refine hK _ _ hC4 ?_
  clear hK K
  refine Rgt.done (by kernel_rfl) ?_ _
  go_wp2_with fail
  refine bodyPost_ret (results_cell_row2 rfl _ _ g 38 Z (0, 0) _ rfl HG4.out dg_under rfl HZI.out) rfl ?_
  exact ⟨rfl, HB4.out⟩
theorem pfold_size_any (n i : Int) (lv : Value) (op : Option Addr) (m cp : Nat) (hn0 : 0 ≤ n) (hi0 : 0 ≤ i) (hin : i < n) (hn5 : n ≤ 512) (hne : m ≠ (Da.ups n.toNat i.toNat).length) (hmm : m ≤ 1000000) (A : Nat → Addr) (w : World) (hA : E13 w A) :
    Calls Tryd.prog 21 #[.int .i64 n, .int .i64 i, lv, .slice op m cp] w fun e w' => e = .returned (.tuple #[.agg (bytesV (List.replicate 32 0)).toArray, errP A 8]) ∧ Below w.heap.size w w' := pfold_size_of _ rfl dg_zero dg_built13 n i lv op m cp hn0 hi0 hin hn5 hne hmm A w hA
set_option maxRecDepth 100000 in
theorem pcheck_of (Z : Array Value) (hZ : Z = (bytesV (List.replicate 32 0)).toArray) (hzs : ∀ w, Sem.run Tryd.prog (zeroValue 38) w = .ok (.agg Z) w)
    (root d : List UInt8) (hr : root.length = 32) (hd : d.length = 32) (n i : Int) (lv pv : Value) (A : Nat → Addr) (k : Nat) (w : World) (hA : E13 w A)
    (hF : ∀ W, Below w.heap.size w W → Calls Tryd.prog 21 #[.int .i64 n, .int .i64 i, lv, pv] W fun e w' => e = .returned (.tuple #[.agg (bytesV d).toArray, errP A k]) ∧ Below W.heap.size W w') :
    Calls Tryd.prog 17 #[.agg (bytesV root).toArray, .int .i64 n, .int .i64 i, lv, pv] w fun e w' => e = .returned (errP A (if k = 0 then (if d = root then 0 else 15) else k)) ∧ Below w.heap.size w w' := by
  obtain ⟨r, hrr⟩ : ∃ r, (if k = 0 then (if d = root then 0 else 15) else k) = r := ⟨_, rfl⟩
  rw [hrr]
  have HRR := Lib.hid hrr
  clear hrr
  obtain ⟨R, hR⟩ : ∃ R, (bytesV root).toArray = R := ⟨_, rfl⟩
  obtain ⟨D, hD⟩ : ∃ D, (bytesV d).toArray = D := ⟨_, rfl⟩
  obtain ⟨g, hg⟩ : ∃ g, w.heap.size = g := ⟨_, rfl⟩
  obtain ⟨W1, hW1⟩ : ∃ W1, w.alloc (.cells R 38) = W1 := ⟨_, rfl⟩
  have hb1 : Below w.heap.size w W1 := by rw [← hW1]; exact new12 _ _
  have hg1 : W1.heap[g]? = some (.cells R 38 (0, 0)) := by rw [← hW1, ← hg]; exact World.alloc_heap_new w _
  have FO := hF W1 hb1
  have hne := fun W => dgq_neq d root hd hr W
  rw [hD] at FO hne
  rw [hR] at hne
  have HRS : Hid ((Tryd.prog.info? 38).map (·.size) = some R.size) := Lib.hid (by rw [dg_info, ← hR]; simp [hr])
  have HDS : Hid ((Tryd.prog.info? 38).map (·.size) = some D.size) := Lib.hid (by rw [dg_info, ← hD]; simp [hd])
  have HDO : Hid (D.all (·.oneCell') = true) := Lib.hid (by rw [← hD]; exact all_oneCell_toArray (bytesV_one _))
  have HDZ : Hid (Z.size = D.size) := Lib.hid (by rw [hZ, ← hD]; simp [hd])
  have HFO := Lib.hid FO
  have HW1 := Lib.hid hW1
  have HB1 := Lib.hid hb1
  have HG1 := Lib.hid hg1
  have HG := Lib.hid hg
  have HE1 := Lib.hid (hA.later hb1)
  rw [hR]
  have hn0 := neq_nil13
  have hgd := dgq_guard
  clear FO hW1 hb1 hg1 hg hF hR hD hd hr hA hZ
  go_enter Tryd.func17, Tryd.ntmps17
  go_upto_region 1 with fail
  rw [HW1.out, HG.out]
  apply wp_region_lit
  (refine wpList_plain rfl (fun K hK => ?_); go_simp; refine hK _ _ ?_; clear hK K)
  (refine wpList_plain rfl (fun K hK => ?_); go_simp; refine hK _ _ ?_; clear hK K)
  (refine wpList_plain rfl (fun K hK => ?_); go_simp; refine hK _ _ ?_; clear hK K)
  (refine wpList_plain rfl (fun K hK => ?_); go_simp; refine hK _ _ ?_; clear hK K)
  (refine wpList_plain rfl (fun K hK => ?_); go_simp)
  refine HFO.out.mono ?_
  rintro e W2 ⟨rfl, hb2⟩
  refine hK _ _ ?_
  clear hK K HFO
  obtain ⟨W3, hW3⟩ : ∃ W3, W2.alloc (.cells Z 38) = W3 := ⟨_, rfl⟩
  obtain ⟨p, hp⟩ : ∃ p, W2.heap.size = p := ⟨_, rfl⟩
  obtain ⟨W4, hW4⟩ : ∃ W4, W3.setRow p D = W4 := ⟨_, rfl⟩
  have hA3 : W3.heap[p]? = some (.cells Z 38 (0, 0)) := by rw [← hW3, ← hp]; exact World.alloc_heap_new W2 _
  have hA4 : W4.heap[p]? = some (.cells D 38 (0, 0)) := by rw [← hW4]; exact setRow_heap _ _ _ _ _ _ hA3
  have hb4 : Below W2.heap.size W2 W4 := by rw [← hW4, ← hW3]; exact (new12 _ _).trans (below_row (Nat.le_of_eq hp))
  have hB14 := Kit.step hb2 hb4
  have hB4 := Kit.step HB1.out hB14
  have hgr : W4.heap[g]? = some (.cells R 38 (0, 0)) := by rw [hB14.block g (Array.getElem?_eq_some_iff.1 HG1.out).1]; exact HG1.out
  have hE4 := HE1.out.later hB14
  have hc14 := hE4.c14
  have HA3 := Lib.hid hA3
  have HA4 := Lib.hid hA4
  have HGR := Lib.hid hgr
  have HB4 := Lib.hid hB4
  have HW3 := Lib.hid hW3
  have HW4 := Lib.hid hW4
  have HP := Lib.hid hp
  clear hW3 hp hW4 hA3 hA4 hb4 hB14 hB4 hgr hE4 hb2
  (refine wpList_plain rfl (fun K hK => ?_); go_simp; refine hK _ _ ?_; clear hK K)
  (refine wpList_plain rfl (fun K hK => ?_); go_simp; refine hK _ _ ?_; clear hK K)
  (refine wpList_plain rfl (fun K hK => ?_); go_simp; refine hK _ _ ?_; clear hK K)
  (refine wpList_plain rfl (fun K hK => ?_); go_simp; refine hK _ _ ?_; clear hK K)
  rw [HW3.out, HP.out]
  refine wpList_store_row rfl 38 (.tmp 11) (.tmp 19) rfl p D rfl rfl 38 Z HA3.out HDS.out HDZ.out HDO.out ?_
  rw [HW4.out]
  clear HW3 HW4 HA3
  by_cases hk0 : k = 0
  · subst hk0
    have e0 : errP A 0 = .nilIface := rfl
    rw [e0]
    clear e0
    go_upto_region 4 with fail
    apply wp_region_lit
    refine wpList_load_row rfl 38 (.tmp 11) rfl p rfl 38 D (0, 0) _ HA4.out dg_under rfl HDS.out ?_
    refine wpList_load_row rfl 38 (.tmp 5) rfl g rfl 38 R (0, 0) _ HGR.out dg_under rfl HRS.out ?_
    by_cases hdr : d = root
    · have hq : (d == root) = true := by rw [hdr]; exact beq_self_eq_true _
      have hne2 : ∀ W, (binOp .neq 38 (.agg D) (.agg R)).run Tryd.prog W = .ok (.bool false) W := fun W => by rw [hne W, hq]; rfl
      have HDR := Lib.hid hdr
      clear hne hq hdr
      go_wp2_with fail
      go_ret
      exact ⟨by rw [← HRR.out, if_pos trivial, if_pos HDR.out]; rfl, HB4.out⟩
    · have hq : (d == root) = false := by simpa using hdr
      have hne2 : ∀ W, (binOp .neq 38 (.agg D) (.agg R)).run Tryd.prog W = .ok (.bool true) W := fun W => by rw [hne W, hq]; rfl
      have HDR := Lib.hid hdr
      clear hne hq hdr
      go_wp2_with fail
      go_ret
      exact ⟨by rw [← HRR.out, if_pos trivial, if_neg HDR.out]; rfl, HB4.out⟩
  · have hev : errP A k = .iface 137 (.pointer (some (A (k - 1)))) := by unfold errP; rw [if_neg hk0]
    rw [hev]
    have HK0 := Lib.hid hk0
    clear hne hc14 hev hk0
    go_wp2_with fail
    go_ret
    exact ⟨by rw [← HRR.out, if_neg HK0.out]; unfold errP; rw [if_neg HK0.out]; rfl, HB4.out⟩
/-- what a path's root is: 0, or an error's number -/
def Da.chkF (n i : Int) (m : Nat) : Nat := if 0 ≤ i ∧ i < n ∧ n ≤ 512 then (if m = (Da.ups n.toNat i.toNat).length then 0 else 8) else 1
def Da.fold13 (n i : Int) (leaf : List UInt8) (ps : List (List UInt8)) : List UInt8 := if Da.chkF n i ps.length = 0 then Da.fs (Da.lf leaf) (Da.ups n.toNat i.toNat) ps ps.length else List.replicate 32 0
def Da.chk13 (root : List UInt8) (n i : Int) (leaf : List UInt8) (ps : List (List UInt8)) : Nat := if Da.chkF n i ps.length = 0 then (if Da.fold13 n i leaf ps = root then 0 else 15) else Da.chkF n i ps.length
theorem Da.fold13_length (n i : Int) (leaf : List UInt8) (ps : List (List UInt8)) : (Da.fold13 n i leaf ps).length = 32 := by
  unfold Da.fold13
  split
  · exact Da.fs_length (Da.lf_length leaf) _ _ _
  · simp
/-- Fold, whatever is asked -/
theorem pfold_all (leaf : List UInt8) (ol : Option Addr) (cl : Nat) (ps : List (List UInt8)) (op : Option Addr) (cp : Nat) (n i : Int) (hl5 : leaf.length ≤ 8900) (hp5 : ps.length ≤ 1000000) (A : Nat → Addr) (w : World)
    (hR : RowIs w ol (bytesV leaf) cl) (hP : DgIs w op ps cp) (hV : Cds w) (hA : E13 w A) :
    Calls Tryd.prog 21 #[.int .i64 n, .int .i64 i, .slice ol leaf.length cl, .slice op ps.length cp] w fun e w' => e = .returned (.tuple #[.agg (bytesV (Da.fold13 n i leaf ps)).toArray, errP A (Da.chkF n i ps.length)]) ∧ Below w.heap.size w w' := by
  by_cases hr : 0 ≤ i ∧ i < n ∧ n ≤ 512
  · by_cases hm : ps.length = (Da.ups n.toNat i.toNat).length
    · have hk : Da.chkF n i ps.length = 0 := by unfold Da.chkF; rw [if_pos hr, if_pos hm]
      have := pfold_any leaf ol cl ps op ps.length cp n.toNat i.toNat rfl hm.symm (by omega) (by omega) hl5 w hR hP hV
      rw [show ((n.toNat : Nat) : Int) = n by omega, show ((i.toNat : Nat) : Int) = i by omega] at this
      unfold Da.fold13
      rw [hk, if_pos rfl]
      exact this
    · have hk : Da.chkF n i ps.length = 8 := by unfold Da.chkF; rw [if_pos hr, if_neg hm]
      have := pfold_size_any n i (.slice ol leaf.length cl) op ps.length cp (by omega) hr.1 hr.2.1 hr.2.2 hm hp5 A w hA
      unfold Da.fold13
      rw [hk, if_neg (by omega)]
      exact this
  · have hk : Da.chkF n i ps.length = 1 := by unfold Da.chkF; rw [if_neg hr]
    have := pfold_range_any n i (.slice ol leaf.length cl) op ps.length cp hr A w hA
    unfold Da.fold13
    rw [hk, if_neg (by omega)]
    exact this
theorem pcheck_all (root : List UInt8) (hr : root.length = 32) (leaf : List UInt8) (ol : Option Addr) (cl : Nat) (ps : List (List UInt8)) (op : Option Addr) (cp : Nat) (n i : Int) (hl5 : leaf.length ≤ 8900) (hp5 : ps.length ≤ 1000000) (A : Nat → Addr) (w : World)
    (hR : RowIs w ol (bytesV leaf) cl) (hP : DgIs w op ps cp) (hV : Cds w) (hA : E13 w A) :
    Calls Tryd.prog 17 #[.agg (bytesV root).toArray, .int .i64 n, .int .i64 i, .slice ol leaf.length cl, .slice op ps.length cp] w fun e w' => e = .returned (errP A (Da.chk13 root n i leaf ps)) ∧ Below w.heap.size w w' :=
  pcheck_of _ rfl dg_zero root (Da.fold13 n i leaf ps) hr (Da.fold13_length n i leaf ps) n i _ _ A (Da.chkF n i ps.length) w hA fun W hW => pfold_all leaf ol cl ps op cp n i hl5 hp5 A W (hR.later hW) (hP.later hW) (hV.later hW) (hA.later hW)
end Go.Proofs.YtjcmihiajpgnjaaDoor
namespace Go.Proofs.YtjcmihiajpgnjaaDoor
open Go.RowKit
set_option linter.unusedVariables false
set_option linter.unusedSimpArgs false
theorem Da.ups10 : Da.ups 1 0 = [] := Da.ups_one 0 (by omega)
theorem Da.ups20 : (Da.ups 2 0).length = 1 := by
  have h : Da.spl 2 = 1 := by decide +kernel
  rw [Da.ups_left (by omega) (by rw [h]; omega), h, Da.ups10]; rfl
theorem eql_nil13 (v : World) : (binOp .eql 27 .nilIface .nilIface).run Tryd.prog v = .ok (.bool true) v := by kernel_rfl
set_option maxHeartbeats 2000000 in
theorem alive13_any (w : World) (hV : Cds w) : Calls Tryd.prog 8 #[] w fun e w' => e = .returned (.bool true) ∧ Below w.heap.size w w' := by
  have hr1 := zrow12 1 w
  have hb1 := new12 w (.cells #[.int .u8 1] 5)
  obtain ⟨W1, hW1⟩ : ∃ W1, w.alloc (.cells #[.int .u8 1] 5) = W1 := ⟨_, rfl⟩
  rw [show (((1 : UInt8).toNat : Int)) = 1 from rfl, hW1] at hr1
  rw [hW1] at hb1
  have hp1 := one_part hr1
  have hb2 := new12 W1 (.cells #[.slice (some ⟨w.heap.size, 0, none⟩) 1 1] 40)
  rw [show ([1] : List UInt8).length = 1 from rfl] at hp1
  obtain ⟨W2, hW2⟩ : ∃ W2, W1.alloc (.cells #[.slice (some ⟨w.heap.size, 0, none⟩) 1 1] 40) = W2 := ⟨_, rfl⟩
  rw [hW2] at hp1 hb2
  have hB2 := Kit.step hb1 hb2
  have MK := pmake_any [[1]] _ 1 1 0 rfl W2 hp1 (hV.later hB2) (by omega) (by omega) (fun i h => by
    have : i = 0 := by simpa using h
    subst this
    simp [bi])
  rw [Da.ups10, List.length_nil] at MK
  have HMK := Lib.hid MK
  have HW1 := Lib.hid hW1
  have HW2 := Lib.hid hW2
  have HB2 := Lib.hid hB2
  have HV := Lib.hid hV
  have he := eql_nil13
  clear hr1 hb1 hW1 hp1 hb2 hW2 MK hB2 hV
  go_enter Tryd.func8, Tryd.ntmps8
  go_upto_region 1 with fail
  apply wp_region_lit
  (refine wpList_plain rfl (fun K hK => ?_); go_simp; refine hK _ _ ?_; clear hK K)
  rw [HW1.out]
  (refine wpList_plain rfl (fun K hK => ?_); go_simp; refine hK _ _ ?_; clear hK K)
  rw [HW2.out]
  (refine wpList_plain rfl (fun K hK => ?_); go_simp)
  refine HMK.out.mono ?_
  rintro e W3 ⟨o3, c3, rfl, hdg3, hb3⟩
  refine hK _ _ ?_
  have hB3 := Kit.step HB2.out hb3
  have HB3 := Lib.hid hB3
  have hr4 := zrow12 1 W3
  have hb4 := new12 W3 (.cells #[.int .u8 1] 5)
  obtain ⟨W4, hW4⟩ : ∃ W4, W3.alloc (.cells #[.int .u8 1] 5) = W4 := ⟨_, rfl⟩
  rw [show (((1 : UInt8).toNat : Int)) = 1 from rfl, hW4] at hr4
  rw [hW4] at hb4
  have hr5 := zrow12 2 W4
  have hb5 := new12 W4 (.cells #[.int .u8 2] 5)
  obtain ⟨W5, hW5⟩ : ∃ W5, W4.alloc (.cells #[.int .u8 2] 5) = W5 := ⟨_, rfl⟩
  rw [show (((2 : UInt8).toNat : Int)) = 2 from rfl, hW5] at hr5
  rw [hW5] at hb5
  have hp5 := two_parts (hr4.later hb5) hr5
  rw [show ([1] : List UInt8).length = 1 from rfl, show ([2] : List UInt8).length = 1 from rfl] at hp5
  have hb6 := new12 W5 (.cells #[.slice (some ⟨W3.heap.size, 0, none⟩) 1 1, .slice (some ⟨W4.heap.size, 0, none⟩) 1 1] 40)
  obtain ⟨W6, hW6⟩ : ∃ W6, W5.alloc (.cells #[.slice (some ⟨W3.heap.size, 0, none⟩) 1 1, .slice (some ⟨W4.heap.size, 0, none⟩) 1 1] 40) = W6 := ⟨_, rfl⟩
  rw [hW6] at hp5 hb6
  have hB6 := Kit.step (Kit.step (Kit.step HB3.out hb4) hb5) hb6
  have MK2 := pmake_any [[1], [2]] _ 2 2 0 rfl W6 hp5 (HV.out.later hB6) (by omega) (by omega) (fun i h => by
    have : i = 0 ∨ i = 1 := by simp at h; omega
    rcases this with rfl | rfl <;> simp [bi])
  rw [Da.ups20] at MK2
  have PL := plen_any 2 0 (by omega) (by omega)
  rw [Da.ups20] at PL
  have HPL := Lib.hid PL
  have HMK2 := Lib.hid MK2
  have HW4 := Lib.hid hW4
  have HW5 := Lib.hid hW5
  have HW6 := Lib.hid hW6
  have HB6 := Lib.hid hB6
  clear hK K hdg3 hb3 hB3 hr4 hb4 hW4 hr5 hb5 hW5 hp5 hb6 hW6 hB6 MK2 PL HMK HW1 HW2
  go_upto_region 2 with fail
  apply wp_region_lit
  (refine wpList_plain rfl (fun K hK => ?_); go_simp; refine hK _ _ ?_; clear hK K)
  rw [HW4.out]
  (refine wpList_plain rfl (fun K hK => ?_); go_simp; refine hK _ _ ?_; clear hK K)
  rw [HW5.out]
  (refine wpList_plain rfl (fun K hK => ?_); go_simp; refine hK _ _ ?_; clear hK K)
  rw [HW6.out]
  (refine wpList_plain rfl (fun K hK => ?_); go_simp)
  refine HMK2.out.mono ?_
  rintro e W7 ⟨o7, c7, rfl, hdg7, hb7⟩
  refine hK _ _ ?_
  clear hK K
  have HB7 := Lib.hid (Kit.step HB6.out hb7)
  have HPL7 := Lib.hid (HPL.out W7)
  clear hb7 hdg7 HMK2 HPL
  go_wp2_with fail
  refine HPL7.out.mono ?_
  rintro e W8 ⟨rfl, hb8⟩
  have HB8 := Lib.hid (Kit.step HB7.out hb8)
  clear hb8
  go_wp2_with fail
  go_ret
  exact ⟨rfl, HB8.out⟩
end Go.Proofs.YtjcmihiajpgnjaaDoor
