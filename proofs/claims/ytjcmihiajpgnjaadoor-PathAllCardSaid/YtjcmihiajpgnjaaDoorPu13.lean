/- What is apart in two paths' rows; the code's Clash. -/
import Derived.Test.YtjcmihiajpgnjaaDoorPs13
namespace Go.Proofs.YtjcmihiajpgnjaaDoor.Da
/-- what a path makes, from the leaf up -/
def rowOf (b : List UInt8) (us : List Bool) (ps : List (List UInt8)) (m : Nat) : List (List UInt8) := (List.range (m + 1)).map (mbs b us ps)
theorem rowOf_length (b : List UInt8) (us : List Bool) (ps : List (List UInt8)) (m : Nat) : (rowOf b us ps m).length = m + 1 := by simp [rowOf]
theorem bi_rowOf (b : List UInt8) (us : List Bool) (ps : List (List UInt8)) {m j : Nat} (h : j ≤ m) : bi (rowOf b us ps m) j = mbs b us ps j := by
  simp [rowOf, bi, List.getD_eq_getElem?_getD, show j < m + 1 by omega]
theorem mbs_le (b : List UInt8) (us : List Bool) (ps : List (List UInt8)) {m : Nat} (hm : ps.length = m) (hp : all32 ps) (B : Nat) (hb : b.length ≤ B) (h65 : 65 ≤ B) : ∀ j, j ≤ m → (mbs b us ps j).length ≤ B
  | 0, _ => hb
  | j + 1, h => by
    rw [mbs_len b us ps j (hp _ (by unfold bi; rw [List.getD_eq_getElem?_getD, List.getElem?_eq_getElem (by omega)]; exact List.getElem_mem _))]
    exact h65
/-- a path that holds makes the root -/
theorem chk_zero {root leaf : List UInt8} {n i : Nat} {ps : List (List UInt8)} (h : chk13 root (n : Int) (i : Int) leaf ps = 0) : ps.length = (ups n i).length ∧ sha (mbs (0 :: leaf) (ups n i) ps ps.length) = root := by
  unfold chk13 at h
  split at h
  · rename_i h0
    split at h
    · rename_i h1
      unfold fold13 at h1
      rw [if_pos h0] at h1
      unfold chkF at h0
      split at h0
      · split at h0
        · rename_i h2
          rw [Int.toNat_natCast, Int.toNat_natCast] at h1 h2
          exact ⟨h2, by rw [sha_mb]; exact h1⟩
        · cases h0
      · cases h0
    · cases h
  · rename_i h0; exact absurd h h0
/-- two rows under one root, from leaves that aren't the same: the highest two that aren't the same have one digest -/
theorem rows_clash {bs : List (List UInt8)} {n i : Nat} (hn : bs.length = n) (hi : i < n) (h5 : n ≤ 512) {leaf : List UInt8} {ps : List (List UInt8)} (hp : all32 ps) (hc : chk13 (mth bs) (n : Int) (i : Int) leaf ps = 0) {j : Nat} (hj : j ≤ ps.length)
    (he : ∀ k, j < k → k < ps.length + 1 → bi (rowOf (0 :: bi bs i) (ups n i) (pa (bs.map lf) i) ps.length) k = bi (rowOf (0 :: leaf) (ups n i) ps ps.length) k) :
    sha (mbs (0 :: bi bs i) (ups n i) (pa (bs.map lf) i) j) = sha (mbs (0 :: leaf) (ups n i) ps j) := by
  obtain ⟨h1, h2⟩ := chk_zero hc
  obtain ⟨h3, h4⟩ := chk_zero (chk_own bs n i hn hi h5)
  have hm : (pa (bs.map lf) i).length = ps.length := by rw [h3, h1]
  rw [hm] at h4
  refine mb_clash (pa_all32 (fun x hx => ?_) i) hp hm rfl (h4.trans h2.symm) j hj fun k k1 k2 => ?_
  · obtain ⟨y, _, rfl⟩ := List.mem_map.1 hx
    exact lf_length y
  · have := he k k1 (by omega)
    rwa [bi_rowOf _ _ _ k2, bi_rowOf _ _ _ k2] at this
end Go.Proofs.YtjcmihiajpgnjaaDoor.Da
namespace Go.Proofs.YtjcmihiajpgnjaaDoor
open Go.RowKit
attribute [local go_sem] Oper.semAt_some
set_option linter.unusedVariables false
set_option linter.unusedSimpArgs false
set_option maxRecDepth 100000 in
set_option maxHeartbeats 2000000 in
theorem papart_any (bs : List (List UInt8)) (o : Option Addr) (n c i : Nat) (hn : bs.length = n) (leaf : List UInt8) (ol : Option Addr) (cl : Nat) (ps : List (List UInt8)) (op : Option Addr) (m cp : Nat) (w : World)
    (hR : RbIs w o bs c) (hL : RowIs w ol (bytesV leaf) cl) (hP : DgIs w op ps cp) (hV : Cds w) (hi : i < n) (h5 : n ≤ 512) (hll : ∀ i, i < bs.length → (bi bs i).length ≤ 8900) (hl5 : leaf.length ≤ 8900) (hm : ps.length = m) (hu : (Da.ups n i).length = m) :
    Calls Tryd.prog 40 #[.slice o n c, .int .i64 (i : Int), .slice ol leaf.length cl, .slice op m cp] w fun e w' => Below w.heap.size w w' ∧
      ((e = .returned (.tuple #[.slice none 0 0, .slice none 0 0, .bool false]) ∧ Da.rowOf (0 :: bi bs i) (Da.ups n i) (Da.pa (bs.map Da.lf) i) m = Da.rowOf (0 :: leaf) (Da.ups n i) ps m) ∨
      ∃ (j : Nat) (o1 : Option Addr) (c1 : Nat) (o2 : Option Addr) (c2 : Nat), j < m + 1 ∧ bi (Da.rowOf (0 :: bi bs i) (Da.ups n i) (Da.pa (bs.map Da.lf) i) m) j ≠ bi (Da.rowOf (0 :: leaf) (Da.ups n i) ps m) j ∧
        (∀ k, j < k → k < m + 1 → bi (Da.rowOf (0 :: bi bs i) (Da.ups n i) (Da.pa (bs.map Da.lf) i) m) k = bi (Da.rowOf (0 :: leaf) (Da.ups n i) ps m) k) ∧
        e = .returned (.tuple #[.slice o1 (bi (Da.rowOf (0 :: bi bs i) (Da.ups n i) (Da.pa (bs.map Da.lf) i) m) j).length c1, .slice o2 (bi (Da.rowOf (0 :: leaf) (Da.ups n i) ps m) j).length c2, .bool true]) ∧
        RowIs w' o1 (bytesV (bi (Da.rowOf (0 :: bi bs i) (Da.ups n i) (Da.pa (bs.map Da.lf) i) m) j)) c1 ∧ RowIs w' o2 (bytesV (bi (Da.rowOf (0 :: leaf) (Da.ups n i) ps m) j)) c2) := by
  obtain ⟨bl, offl, pl, ql, rfl, hlbl, hlcell, hlrow⟩ := hR.cell i (by rw [hn]; exact hi)
  have MK := pmake_any bs (some ⟨bl, offl, none⟩) n c i hn w hR hV hi h5 (fun k hk => Nat.le_trans (hll k hk) (by omega))
  have hpl := Da.pa_length (bs.map Da.lf) i
  rw [List.length_map, hn, hu] at hpl
  rw [hu] at MK
  have hlle := hll i (by rw [hn]; exact hi)
  have hcle := hR.le
  rw [hn] at hcle
  have hicl := hcle.1
  unfold maxLen at hcle
  have hicm := hcle.2
  obtain ⟨lf, hlf⟩ : ∃ lf, bi bs i = lf := ⟨_, rfl⟩
  obtain ⟨pa, hpa⟩ : ∃ pa, Da.pa (bs.map Da.lf) i = pa := ⟨_, rfl⟩
  rw [hlf] at hlrow hlcell hlle ⊢
  rw [hpa] at MK hpl ⊢
  obtain ⟨us, hus⟩ : ∃ us, Da.rowOf (0 :: lf) (Da.ups n i) pa m = us := ⟨_, rfl⟩
  obtain ⟨vs, hvs⟩ : ∃ vs, Da.rowOf (0 :: leaf) (Da.ups n i) ps m = vs := ⟨_, rfl⟩
  rw [hus, hvs]
  have hun : us.length = m + 1 := by rw [← hus, Da.rowOf_length]
  have hvn : vs.length = m + 1 := by rw [← hvs, Da.rowOf_length]
  obtain ⟨LL, hLL⟩ : ∃ LL, leaf.length = LL := ⟨_, rfl⟩
  obtain ⟨l1, hl1⟩ : ∃ l1, lf.length = l1 := ⟨_, rfl⟩
  rw [hl1] at hlcell hlle
  rw [hLL]
  -- the rows, wherever they are told
  have CO : ∀ (W W' : World) (q : Nat), Below w.heap.size w W → DgIs W op ps cp → Boxed W q 3 (.int .i64 (n : Int)) → Boxed W (q + 1) 3 (.int .i64 (i : Int)) → Boxed W (q + 2) 40 (.slice ol LL cl) → Boxed W (q + 3) 25 (.slice op m cp) → Below W.heap.size W W' →
      Calls Tryd.prog 69 #[.func (.func 50) #[] #[.pointer (some ⟨q + 2, 0, none⟩), .pointer (some ⟨q + 3, 0, none⟩), .pointer (some ⟨q, 0, none⟩), .pointer (some ⟨q + 1, 0, none⟩)]] W' fun e w' => ∃ o c, e = .returned (.slice o (m + 1) c) ∧ RbIs w' o vs c ∧ Below W'.heap.size W' w' ∧ ∀ ad, o = some ad → W'.heap.size ≤ ad.block := fun W W' q hb hd x1 x2 x3 x4 hW => by
    rw [← hLL] at x3
    have := collect_any leaf ol cl ps op m cp n i (q + 2) (q + 3) q (q + 1) hm hu hi h5 hl5 W' ⟨boxed_later x3 hW, boxed_later x4 hW, boxed_later x1 hW, boxed_later x2 hW, (hL.later hb).later hW, hd.later hW, (hV.later hb).later hW⟩
    exact this.mono fun e w' ⟨o, c, h1, h2, h3⟩ => ⟨o, c, h1, by rw [← hvs]; exact h2, h3⟩
  have CU : ∀ (W W' : World) (q : Nat) (o1 : Option Addr) (c1 : Nat), Below w.heap.size w W → DgIs W o1 pa c1 → Boxed W q 3 (.int .i64 (n : Int)) → Boxed W (q + 1) 3 (.int .i64 (i : Int)) → Boxed W (q + 2) 40 (.slice pl l1 ql) → Boxed W (q + 3) 25 (.slice o1 m c1) → Below W.heap.size W W' →
      Calls Tryd.prog 69 #[.func (.func 50) #[] #[.pointer (some ⟨q + 2, 0, none⟩), .pointer (some ⟨q + 3, 0, none⟩), .pointer (some ⟨q, 0, none⟩), .pointer (some ⟨q + 1, 0, none⟩)]] W' fun e w' => ∃ o c, e = .returned (.slice o (m + 1) c) ∧ RbIs w' o us c ∧ Below W'.heap.size W' w' := fun W W' q o1 c1 hb hd x1 x2 x3 x4 hW => by
    rw [← hl1] at x3
    have := collect_any lf pl ql pa o1 m c1 n i (q + 2) (q + 3) q (q + 1) hpl hu hi h5 (by rw [hl1]; exact hlle) W' ⟨boxed_later x3 hW, boxed_later x4 hW, boxed_later x1 hW, boxed_later x2 hW, (hlrow.later hb).later hW, hd.later hW, (hV.later hb).later hW⟩
    exact this.mono fun e w' ⟨o, c, h1, h2, h3⟩ => ⟨o, c, h1, by rw [← hus]; exact h2, h3.1⟩
  have HMK := Lib.hid MK
  have HCO := Lib.hid CO
  have HCU := Lib.hid CU
  have HUN := Lib.hid hun
  have HVN := Lib.hid hvn
  have HLC := Lib.hid hlcell
  have HLB := Lib.hid hlbl
  have HP := Lib.hid hP
  have hnn := neq_nil13
  clear MK CO CU hun hvn hlcell hlbl hlrow hP hL hR hV hm hu hll hl5 hus hvs hpa hlf hLL hl1 hpl hn hlle hcle
  go_enter Tryd.func40, Tryd.ntmps40
  go_wp2_with fail
  refine HMK.out.mono ?_
  rintro e W1 ⟨o1, c1, rfl, hdg, hb1⟩
  have HDG := Lib.hid hdg
  have HB1 := Lib.hid hb1
  have hlc1 : W1.cell? ⟨bl, offl + i, none⟩ = some (.slice pl l1 ql) := by rw [hb1.cell (p := ⟨bl, offl + i, none⟩) HLB.out]; exact HLC.out
  clear hdg hb1 HMK
  -- STOP1
  obtain ⟨q, hq⟩ : ∃ q, W1.heap.size = q := ⟨_, rfl⟩
  obtain ⟨W2, MM1, hb2, hs2, x1, x2, x3, x4⟩ := made_world (n : Int) (i : Int) pl o1 l1 ql m c1 W1 q hq
  obtain ⟨W3, MM2, hb3, hs3, y1, y2, y3, y4⟩ := made_world (n : Int) (i : Int) ol op LL cl m cp W2 (q + 4) hs2
  have HG := Lib.hid (highest_any _ _ us vs (m + 1) HUN.out HVN.out W3 (fun W hW => HCU.out W2 W q o1 c1 (Kit.step HB1.out hb2) (HDG.out.later hb2) x1 x2 x3 x4 (Kit.step hb3 hW)) (fun W hW => HCO.out W3 W (q + 4) (Kit.step (Kit.step HB1.out hb2) hb3) (HP.out.later (Kit.step (Kit.step HB1.out hb2) hb3)) y1 y2 y3 y4 hW))
  have HM1 := Lib.hid MM1
  have HM2 := Lib.hid MM2
  have HB3 := Lib.hid (Kit.step (Kit.step HB1.out hb2) hb3)
  clear hq MM1 hb2 hs2 x1 x2 x3 x4 MM2 hb3 hs3 y1 y2 y3 y4
  go_wp2_with fail
  refine HM1.out.mono ?_
  rintro e W2' ⟨rfl, rfl⟩
  go_wp2_with fail
  refine HM2.out.mono ?_
  rintro e W3' ⟨rfl, rfl⟩
  go_wp2_with fail
  refine HG.out.mono ?_
  rintro e W4 ⟨hb4, h4⟩
  have HB4 := Lib.hid (Kit.step HB3.out hb4)
  rcases h4 with ⟨rfl, heq⟩ | ⟨j, r1, d1, r2, d2, h1, h2, h3, rfl, h5, h6⟩
  · have HEQ := Lib.hid heq
    clear heq hb4
    go_wp2_with fail
    refine bodyPost_ret (results_tmp3 rfl _ _ _) rfl ?_
    exact ⟨HB4.out, .inl ⟨rfl, HEQ.out⟩⟩
  · obtain ⟨z1, hz1⟩ : ∃ z, (bi us j).length = z := ⟨_, rfl⟩
    obtain ⟨z2, hz2⟩ : ∃ z, (bi vs j).length = z := ⟨_, rfl⟩
    have H1 := Lib.hid (And.intro h1 (And.intro h2 h3))
    have H5 := Lib.hid (And.intro h5 h6)
    rw [hz1, hz2]
    have HZ := Lib.hid (And.intro hz1 hz2)
    clear h1 h2 h3 h5 h6 hz1 hz2 hb4
    go_wp2_with fail
    refine bodyPost_ret (results_tmp3 rfl _ _ _) rfl ?_
    exact ⟨HB4.out, .inr ⟨j, r1, d1, r2, d2, H1.out.1, H1.out.2.1, H1.out.2.2, by rw [HZ.out.1, HZ.out.2]; rfl, H5.out.1, H5.out.2⟩⟩
theorem str_beq13 (a b : List UInt8) : ((⟨a.toArray⟩ : ByteArray).toList == (⟨b.toArray⟩ : ByteArray).toList) = (a == b) := by
  rw [ByteArray.toList_eq, ByteArray.toList_eq]
/-- is there another leaf under the same root, by this path? -/
def Da.isClash (bs : List (List UInt8)) (i : Int) (leaf : List UInt8) (ps : List (List UInt8)) : Prop := (0 ≤ i ∧ i < (bs.length : Int) ∧ (bs.length : Int) ≤ 512) ∧ leaf ≠ bi bs i.toNat ∧ Da.chk13 (Da.mth bs) (bs.length : Int) i leaf ps = 0
set_option maxRecDepth 100000 in
set_option maxHeartbeats 2000000 in
theorem pclash_any (bs : List (List UInt8)) (o : Option Addr) (n c : Nat) (i : Int) (hn : bs.length = n) (leaf : List UInt8) (ol : Option Addr) (cl : Nat) (ps : List (List UInt8)) (op : Option Addr) (m cp : Nat) (A : Nat → Addr) (w : World)
    (hR : RbIs w o bs c) (hL : RowIs w ol (bytesV leaf) cl) (hP : DgIs w op ps cp) (hV : Cds w) (hA : E13 w A) (hll : ∀ i, i < bs.length → (bi bs i).length ≤ 8900) (hl5 : leaf.length ≤ 8900) (hm : ps.length = m) (hm5 : m ≤ 1000000) (hn5 : n ≤ 100000) :
    Calls Tryd.prog 24 #[.slice o n c, .int .i64 i, .slice ol leaf.length cl, .slice op m cp] w fun e w' => Below w.heap.size w w' ∧
      ((e = .returned (.tuple #[.slice none 0 0, .slice none 0 0, .bool false]) ∧ ¬ Da.isClash bs i leaf ps) ∨
      (Da.isClash bs i leaf ps ∧ ∃ (x y : List UInt8) (o1 : Option Addr) (c1 : Nat) (o2 : Option Addr) (c2 : Nat), e = .returned (.tuple #[.slice o1 x.length c1, .slice o2 y.length c2, .bool true]) ∧ RowIs w' o1 (bytesV x) c1 ∧ RowIs w' o2 (bytesV y) c2 ∧
        x ≠ y ∧ Da.sha x = Da.sha y ∧ x.length ≤ 8901 ∧ y.length ≤ 8901)) := by
  by_cases hbad : 0 ≤ i ∧ i < (n : Int) ∧ (n : Int) ≤ 512
  rotate_left
  · have PB := plen_bad (n : Int) i hbad
    have hno : ¬ Da.isClash bs i leaf ps := fun h => hbad (by rw [← hn]; exact h.1)
    obtain ⟨LL, hLL⟩ : ∃ LL, leaf.length = LL := ⟨_, rfl⟩
    rw [hLL]
    have HPB := Lib.hid PB
    have HNO := Lib.hid hno
    have hd : decide ((-1 : Int) < 0) = true := rfl
    clear PB hno hbad hR hL hP hV hA hll hl5 hm hm5 hn hLL hn5
    go_enter Tryd.func24, Tryd.ntmps24
    go_wp2_with fail
    refine (HPB.out w).mono ?_
    rintro e W1 ⟨rfl, rfl⟩
    go_wp2_with fail
    refine bodyPost_ret (results_tmp3 rfl _ _ _) rfl ?_
    exact ⟨Below.refl _ _, .inl ⟨rfl, HNO.out⟩⟩
  obtain ⟨i, rfl⟩ : ∃ k : Nat, i = (k : Int) := ⟨i.toNat, by omega⟩
  have hin : i < n := by omega
  have hn512 : n ≤ 512 := by omega
  obtain ⟨bl, offl, pl, ql, rfl, hlbl, hlcell, hlrow⟩ := hR.cell i (by rw [hn]; exact hin)
  have PL := plen_any n i hin hn512 w
  obtain ⟨u, hu⟩ : ∃ u, (Da.ups n i).length = u := ⟨_, rfl⟩
  rw [hu] at PL
  have hcle := hR.le
  rw [hn] at hcle
  have hicl := hcle.1
  unfold maxLen at hcle
  have hicm := hcle.2
  have hlle := hll i (by rw [hn]; exact hin)
  have EQ := fun W (hW : Below w.heap.size w W) => equal_any13 leaf (bi bs i) ol pl cl ql W (hL.later hW) (hlrow.later hW)
  have TR := fun W (hW : Below w.heap.size w W) => troot_any bs (some ⟨bl, offl, none⟩) n c hn W (hR.later hW) (hV.later hW) (by omega) (fun k hk => Nat.le_trans (hll k hk) (by omega))
  have PC := fun W (op' : Option Addr) (cp' : Nat) (hd : DgIs W op' ps cp') (hW : Below w.heap.size w W) => pcheck_all (Da.mth bs) (Da.mth_length bs) leaf ol cl ps op' cp' (n : Int) (i : Int) hl5 (by omega) A W (hL.later hW) hd (hV.later hW) (hA.later hW)
  have PA := fun W (hu2 : u = m) (hW : Below w.heap.size w W) => papart_any bs (some ⟨bl, offl, none⟩) n c i hn leaf ol cl ps op m cp W (hR.later hW) (hL.later hW) (hP.later hW) (hV.later hW) hin hn512 hll hl5 hm (by rw [hu]; exact hu2)
  have hrows := fun (j : Nat) (hj : j ≤ ps.length) (hc : Da.chk13 (Da.mth bs) (n : Int) (i : Int) leaf ps = 0) => Da.rows_clash hn hin hn512 (leaf := leaf) (ps := ps) hP.all hc (j := j) hj
  have hpall := hP.all
  have hown : Da.all32 (Da.pa (bs.map Da.lf) i) := Da.pa_all32 (fun x hx => by
    obtain ⟨y, _, rfl⟩ := List.mem_map.1 hx
    exact Da.lf_length y) i
  have hpl := Da.pa_length (bs.map Da.lf) i
  rw [List.length_map, hn, hu] at hpl
  have hl9 : (0 :: leaf : List UInt8).length ≤ 8901 := by simp; omega
  have hl8 : (0 :: bi bs i : List UInt8).length ≤ 8901 := by simp; omega
  have hcz := fun (hc : Da.chk13 (Da.mth bs) (n : Int) (i : Int) leaf ps = 0) => (Da.chk_zero hc).1
  rw [hu, hm] at hcz
  have hiff : Da.isClash bs (i : Int) leaf ps ↔ leaf ≠ bi bs i ∧ Da.chk13 (Da.mth bs) (n : Int) (i : Int) leaf ps = 0 := by
    unfold Da.isClash
    rw [Int.toNat_natCast, hn]
    exact ⟨fun h => h.2, fun h => ⟨by omega, h⟩⟩
  obtain ⟨k, hk⟩ : ∃ k, Da.chk13 (Da.mth bs) (n : Int) (i : Int) leaf ps = k := ⟨_, rfl⟩
  obtain ⟨lf, hlf⟩ : ∃ lf, bi bs i = lf := ⟨_, rfl⟩
  obtain ⟨LL, hLL⟩ : ∃ LL, leaf.length = LL := ⟨_, rfl⟩
  obtain ⟨l1, hl1⟩ : ∃ l1, lf.length = l1 := ⟨_, rfl⟩
  obtain ⟨RA, hRA⟩ : ∃ RA, (bytesV (Da.mth bs)).toArray = RA := ⟨_, rfl⟩
  obtain ⟨EK, hEK⟩ : ∃ EK, errP A k = EK := ⟨_, rfl⟩
  rw [hlf] at hlcell hlrow hlle EQ hiff hrows PA hl8
  rw [hk] at hiff hrows hcz
  simp only [hk, hm, hLL, hRA, hEK] at PC
  simp only [hLL] at PA EQ
  rw [hl1] at EQ hlcell
  simp only [hRA] at TR
  rw [hm] at hrows
  rw [hLL]
  have HPL := Lib.hid PL
  have HEQ := Lib.hid EQ
  have HTR := Lib.hid TR
  have HPC := Lib.hid PC
  have HPA := Lib.hid PA
  have HIFF := Lib.hid hiff
  have HROWS := Lib.hid hrows
  have HALL := Lib.hid (And.intro hpall hown)
  have HPLM := Lib.hid (And.intro hpl hm)
  have HL89 := Lib.hid (And.intro hl8 hl9)
  have HCZ := Lib.hid hcz
  have HEK := Lib.hid hEK
  have HP := Lib.hid hP
  have HLC := Lib.hid hlcell
  have HLB := Lib.hid hlbl
  have hdu : decide ((u : Int) < 0) = false := decide_eq_false (by omega)
  have hnn := neq_nil13
  clear PL EQ TR PC PA hiff hrows hpall hown hpl hm hl8 hl9 hcz hEK hP hlcell hlbl hlrow hlle hR hL hV hA hll hl5 hu hn hcle hk hlf hLL hl1 hRA hm5 hn5
  by_cases hq : leaf = lf
  · have hno : ¬ Da.isClash bs (i : Int) leaf ps := fun h => (HIFF.out.1 h).1 hq
    have EQ := HEQ.out
    simp only [hq, beq_self_eq_true] at EQ
    have HEQ := Lib.hid EQ
    have HNO := Lib.hid hno
    clear hq hno EQ
    go_enter Tryd.func24, Tryd.ntmps24
    go_wp2_with fail
    refine HPL.out.mono ?_
    rintro e W1 ⟨rfl, hb1⟩
    have HB1 := Lib.hid hb1
    have hlc1 : W1.cell? ⟨bl, offl + i, none⟩ = some (.slice pl l1 ql) := by rw [hb1.cell (p := ⟨bl, offl + i, none⟩) HLB.out]; exact HLC.out
    clear hb1
    go_wp2_with fail
    refine (HEQ.out W1 HB1.out).mono ?_
    rintro e W2 ⟨rfl, rfl⟩
    go_wp2_with fail
    refine bodyPost_ret (results_tmp3 rfl _ _ _) rfl ?_
    exact ⟨HB1.out, .inl ⟨rfl, HNO.out⟩⟩
  have hbq : (leaf == lf) = false := by simpa using hq
  have EQ := HEQ.out
  simp only [hbq] at EQ
  have HEQ := Lib.hid EQ
  have HQ := Lib.hid hq
  clear hbq EQ hq
  by_cases hk : k = 0
  rotate_left
  · have hno : ¬ Da.isClash bs (i : Int) leaf ps := fun h => hk (HIFF.out.1 h).2
    have hev : EK = .iface 137 (.pointer (some (A (k - 1)))) := by rw [← HEK.out]; unfold errP; rw [if_neg hk]
    subst hev
    have HNO := Lib.hid hno
    clear hno hk
    go_enter Tryd.func24, Tryd.ntmps24
    go_wp2_with fail
    refine HPL.out.mono ?_
    rintro e W1 ⟨rfl, hb1⟩
    have HB1 := Lib.hid hb1
    have hlc1 : W1.cell? ⟨bl, offl + i, none⟩ = some (.slice pl l1 ql) := by rw [hb1.cell (p := ⟨bl, offl + i, none⟩) HLB.out]; exact HLC.out
    clear hb1
    go_wp2_with fail
    refine (HEQ.out W1 HB1.out).mono ?_
    rintro e W2 ⟨rfl, rfl⟩
    rename World => W1
    go_wp2_with fail
    refine (HTR.out W1 HB1.out).mono ?_
    rintro e W2 ⟨rfl, hb2⟩
    have HB2 := Lib.hid (Kit.step HB1.out hb2)
    clear hb2
    go_wp2_with fail
    refine (HPC.out W2 op cp (HP.out.later HB2.out) HB2.out).mono ?_
    rintro e W3 ⟨rfl, hb3⟩
    have HB3 := Lib.hid (Kit.step HB2.out hb3)
    clear hb3 hlc1
    go_wp2_with fail
    refine bodyPost_ret (results_tmp3 rfl _ _ _) rfl ?_
    exact ⟨HB3.out, .inl ⟨rfl, HNO.out⟩⟩
  subst hk
  have hev : EK = .nilIface := by rw [← HEK.out]; rfl
  subst hev
  have HU := Lib.hid (HCZ.out rfl)
  go_enter Tryd.func24, Tryd.ntmps24
  go_wp2_with fail
  refine HPL.out.mono ?_
  rintro e W1 ⟨rfl, hb1⟩
  have HB1 := Lib.hid hb1
  have hlc1 : W1.cell? ⟨bl, offl + i, none⟩ = some (.slice pl l1 ql) := by rw [hb1.cell (p := ⟨bl, offl + i, none⟩) HLB.out]; exact HLC.out
  clear hb1
  go_wp2_with fail
  refine (HEQ.out W1 HB1.out).mono ?_
  rintro e W2 ⟨rfl, rfl⟩
  rename World => W1
  go_wp2_with fail
  refine (HTR.out W1 HB1.out).mono ?_
  rintro e W2 ⟨rfl, hb2⟩
  have HB2 := Lib.hid (Kit.step HB1.out hb2)
  clear hb2
  go_wp2_with fail
  refine (HPC.out W2 op cp (HP.out.later HB2.out) HB2.out).mono ?_
  rintro e W3 ⟨rfl, hb3⟩
  have HB3 := Lib.hid (Kit.step HB2.out hb3)
  clear hb3 hlc1
  go_wp2_with fail
  refine (HPA.out W3 HU.out.symm HB3.out).mono ?_
  rintro e W4 ⟨hb4, h4⟩
  have HB4 := Lib.hid (Kit.step HB3.out hb4)
  clear hb4
  rcases h4 with ⟨rfl, heq⟩ | ⟨j, r1, d1, r2, d2, h1, h2, h3, rfl, h5, h6⟩
  · exfalso
    have h0 : bi (Da.rowOf (0 :: lf) (Da.ups n i) (Da.pa (bs.map Da.lf) i) m) 0 = bi (Da.rowOf (0 :: leaf) (Da.ups n i) ps m) 0 := by rw [heq]
    rw [Da.bi_rowOf _ _ _ (Nat.zero_le _), Da.bi_rowOf _ _ _ (Nat.zero_le _)] at h0
    exact HQ.out (List.cons.inj h0).2.symm
  have hjm : j ≤ m := by omega
  have hsh := HROWS.out j hjm trivial h3
  rw [Da.bi_rowOf _ _ _ hjm, Da.bi_rowOf _ _ _ hjm] at h2
  rw [Da.bi_rowOf _ _ _ hjm] at h5 h6
  rw [Da.bi_rowOf _ _ _ hjm, Da.bi_rowOf _ _ _ hjm]
  have hx1 := Da.mbs_le (0 :: lf) (Da.ups n i) _ (m := m) (by rw [HPLM.out.1]; exact HU.out.symm) HALL.out.2 8901 HL89.out.1 (by omega) j hjm
  have hx2 := Da.mbs_le (0 :: leaf) (Da.ups n i) ps (m := m) HPLM.out.2 HALL.out.1 8901 HL89.out.2 (by omega) j hjm
  obtain ⟨x, hx⟩ : ∃ x, Da.mbs (0 :: lf) (Da.ups n i) (Da.pa (bs.map Da.lf) i) j = x := ⟨_, rfl⟩
  obtain ⟨y, hy⟩ : ∃ y, Da.mbs (0 :: leaf) (Da.ups n i) ps j = y := ⟨_, rfl⟩
  rw [hx] at hsh h2 h5 hx1 ⊢
  rw [hy] at hsh h2 h6 hx2 ⊢
  have HF := Lib.hid (show Da.isClash bs (i : Int) leaf ps ∧ RowIs W4 r1 (bytesV x) d1 ∧ RowIs W4 r2 (bytesV y) d2 ∧ x ≠ y ∧ Da.sha x = Da.sha y ∧ x.length ≤ 8901 ∧ y.length ≤ 8901 from ⟨HIFF.out.2 ⟨HQ.out, trivial⟩, h5, h6, h2, hsh, hx1, hx2⟩)
  obtain ⟨xl, hxl⟩ : ∃ z, x.length = z := ⟨_, rfl⟩
  obtain ⟨yl, hyl⟩ : ∃ z, y.length = z := ⟨_, rfl⟩
  rw [hxl, hyl]
  have HXY := Lib.hid (And.intro hxl hyl)
  clear h1 h2 h3 h5 h6 hsh hx1 hx2 hx hy hxl hyl hjm
  go_wp2_with fail
  refine bodyPost_ret (results_tmp3 rfl _ _ _) rfl ?_
  obtain ⟨q1, q2, q3, q4, q5, q6, q7⟩ := HF.out
  exact ⟨HB4.out, .inr ⟨q1, x, y, r1, d1, r2, d2, by rw [HXY.out.1, HXY.out.2]; rfl, q2, q3, q4, q5, q6, q7⟩⟩
end Go.Proofs.YtjcmihiajpgnjaaDoor
