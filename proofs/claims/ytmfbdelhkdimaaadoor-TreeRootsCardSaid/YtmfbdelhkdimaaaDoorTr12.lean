/- TreeRoots. -/
import Derived.Test.YtmfbdelhkdimaaaDoorTh
namespace Go.Proofs.YtmfbdelhkdimaaaDoor
open Go.RowKit
set_option linter.unusedVariables false
set_option linter.unusedSimpArgs false
theorem exec_mid {P : Program} {o : Oper} {a : Act} {w : World} {ty : TypeId} {x : Operand} {b off : Nat} {V : Value} (ho : o.op = .load ty x) (hx : a.eval x = .pointer (some ⟨b, off, none⟩)) (h : (Instr.loadAt ty (.pointer (some ⟨b, off, none⟩))).run P w = .ok V w) :
    (execOp a.eval o).run P w = .ok (.value V) w := by
  unfold execOp
  simp only [ho, hx, h, Result.andThen_ok, Sem.run_bind, Sem.run_pure]
def hdr12 (bs : List (List UInt8)) (Bs : Nat → Nat) (i : Nat) : Value := .slice (some ⟨Bs i, 0, none⟩) (bi bs i).length ((bi bs i).length + 6)
def hdrs12 (bs : List (List UInt8)) (Bs : Nat → Nat) (k : Nat) : List Value := (List.range k).map (hdr12 bs Bs)
theorem hdrs12_length (bs : List (List UInt8)) (Bs : Nat → Nat) (k : Nat) : (hdrs12 bs Bs k).length = k := by simp [hdrs12]
/-- the copies of the leaves -/
structure In12 (bs : List (List UInt8)) (W wr : World) (v : Value) (ki : Nat) (Bs : Nat → Nat) : Prop where
  ins : wr.ownsRow W.heap.size 25 1 v ki (hdrs12 bs Bs ki)
  mkd : ∀ i, i < ki → MarkedAt wr (Bs i) (bi bs i)
  below : Below W.heap.size W wr
theorem In12.later {bs : List (List UInt8)} {W wr w' : World} {v : Value} {ki : Nat} {Bs : Nat → Nat} (h : In12 bs W wr v ki Bs) (hb : Below wr.heap.size wr w') : In12 bs W w' v ki Bs := by
  have hg : wr.grownBy w' none := grown_below (B := 0) hb
  exact ⟨own_kept h.ins hg (by cases h : v.ownBlock; (· exact .inl rfl); exact .inr (by simp)), fun i hi => mark_kept (h.mkd i hi) hg (by simp), Kit.step h.below hb⟩
theorem In12.hdr {bs : List (List UInt8)} {W wr w' : World} {v v' : Value} {ki B : Nat} {Bs : Nat → Nat} (h : In12 bs W wr v ki Bs) (hM : MarkedAt wr B (bi bs ki))
    (hv : w'.ownsRow W.heap.size 25 1 v' (ki + 1) (hdrs12 bs Bs ki ++ [.slice (some ⟨B, 0, none⟩) (bi bs ki).length ((bi bs ki).length + 6)])) (hg : wr.grownBy w' v.ownBlock) :
    In12 bs W w' v' (ki + 1) (fun i => if i = ki then B else Bs i) := by
  refine ⟨?_, fun i hi => ?_, own_belowB h.below h.ins hg⟩
  · have e : hdrs12 bs (fun i => if i = ki then B else Bs i) (ki + 1) = hdrs12 bs Bs ki ++ [.slice (some ⟨B, 0, none⟩) (bi bs ki).length ((bi bs ki).length + 6)] := by
      unfold hdrs12
      rw [List.range_succ, List.map_append]
      congr 1
      · refine List.map_congr_left fun i hi => ?_
        have : i < ki := by simpa using hi
        simp [hdr12, show i ≠ ki by omega]
      · simp [hdr12]
    rw [e]; exact hv
  · by_cases e : i = ki
    · subst e; simp only [if_true]; exact mark_kept hM hg (mark_apart h.ins hM (by decide))
    · simp only [if_neg e]; exact mark_kept (h.mkd i (by omega)) hg (mark_apart h.ins (h.mkd i (by omega)) (by decide))
theorem In12.row {bs : List (List UInt8)} {W wr : World} {oi : Option Addr} {n ci : Nat} {Bs : Nat → Nat} (h : In12 bs W wr (.slice oi n ci) n Bs) (hs : ∀ i, i < bs.length → (bi bs i).length ≤ 200) (hk : bs.length = n) : RbIs wr oi bs ci := by
  obtain ⟨o, c, e, hr⟩ := owns_is h.ins (by rw [hdrs12_length])
  cases e
  refine ⟨hdrs12 bs Bs n, hr, ⟨by rw [hdrs12_length, hk], fun i x hx => ?_⟩⟩
  have hi : i < n := by
    have := (List.getElem?_eq_some_iff.1 hx).1
    rwa [hdrs12_length] at this
  have hx' : x = hdr12 bs Bs i := by
    unfold hdrs12 at hx
    rw [List.getElem?_map, List.getElem?_range hi] at hx
    exact (Option.some.inj hx).symm
  subst hx'
  exact ⟨_, _, rfl, (h.mkd i hi).row (by have := hs i (by omega); unfold maxLen; omega)⟩
def Tr1 (bs : List (List UInt8)) (n : Nat) (W : World) (v i : Value) (wr : World) : Prop :=
  ∃ (k : Nat) (Bs : Nat → Nat), k ≤ n ∧ i = .int .i64 (k : Int) ∧ In12 bs W wr v k Bs
def Tr2 (n : Nat) (X : World) (i : Value) (wr : World) : Prop := ∃ k : Nat, k ≤ n ∧ i = .int .i64 (k : Int) ∧ Below X.heap.size X wr
set_option maxRecDepth 100000 in
set_option maxHeartbeats 4000000 in
theorem tr12_of (Z Y : Array Value) (hZ : Z = (bytesV (List.replicate 32 0)).toArray) (hzs : ∀ w, Sem.run Tryd.prog (zeroValue 32) w = .ok (.agg Z) w) (hY : Y = (bytesV (List.replicate 32 0)).toArray) (hys : ∀ w, Sem.run Tryd.prog (zeroValue 31) w = .ok (.agg Y) w)
    (bs : List (List UInt8)) (o : Option Addr) (c : Nat) (w : World) (hR : RbIs w o bs c) (hV : Cds w) (hD : Rds w) :
    Calls Tryd.prog 3 #[.slice o bs.length c] w fun e w' => e = .returned (.bool true) ∧ Below w.heap.size w w' := by
  have AL := Lib.hid (alive12_any w)
  have hcl := hR.le.1
  have hca := hR.le.2
  unfold maxLen at hca
  have HR := Lib.hid hR
  have HV := Lib.hid hV
  have HD := Lib.hid hD
  have HZS : Hid (Z.size = 32) := Lib.hid (by rw [hZ]; simp)
  have HYS : Hid (Y.size = 32) := Lib.hid (by rw [hY]; simp)
  obtain ⟨n, hn⟩ : ∃ n, bs.length = n := ⟨_, rfl⟩
  have HN := Lib.hid hn
  rw [hn] at hcl ⊢
  clear hR hV hD hn hZ hY
  go_enter Tryd.func3, Tryd.ntmps3
  go_wp2_with fail
  refine AL.out.mono ?_
  rintro e W1 ⟨rfl, hb1⟩
  have HB1 := Lib.hid hb1
  have LO := Lib.hid (long_any bs o n c HN.out 60 (by omega) W1 (HR.out.later hb1))
  clear hb1 AL
  cases hlg : Da.lng bs 60 with
  | true =>
    rw [hlg] at LO
    clear hlg
    go_wp2_with fail
    refine LO.out.mono ?_
    rintro e w1 ⟨rfl, rfl⟩
    go_wp2_with fail
    go_ret
    exact ⟨rfl, HB1.out⟩
  | false =>
    rw [hlg] at LO
    obtain ⟨hn60, hall⟩ := Da.lng_not hlg
    rw [HN.out] at hn60
    have HAL : Hid (∀ i, i < bs.length → (bi bs i).length ≤ 200) := Lib.hid (Da.len_of hall 200 (Nat.le_refl _))
    clear hlg hall
    go_wp2_with fail
    refine LO.out.mono ?_
    rintro e w1 ⟨rfl, rfl⟩
    rename World => W1
    clear LO
    obtain ⟨W2, hW2⟩ : ∃ W2, W1.alloc (.cells #[] 25) = W2 := ⟨_, rfl⟩
    have hI : In12 bs w W2 (.slice (some ⟨W1.heap.size, 0, none⟩) 0 0) 0 (fun _ => 0) := by
      have h2 : Below W1.heap.size W1 W2 := by rw [← hW2]; exact below_new0 _ _
      refine ⟨?_, fun i hi => absurd hi (by omega), Kit.step HB1.out h2⟩
      rw [← hW2]
      exact World.ownsRow_lit W1 #[] 0 HB1.out.size (Nat.zero_le _) rfl
    have HI := Lib.hid hI
    have HW2 := Lib.hid hW2
    clear hI hW2
    go_wp2_with (first | rw [HW2.out])
    clear HW2
    go_loopw [3, 5, 18] (fun v _ i wr => Tr1 bs n w v i wr) (fun _ _ i _ => n - (intOf i).toNat)
    case atStart => exact ⟨0, _, Nat.zero_le _, rfl, HI.out⟩
    case round =>
      rename World => X1
      obtain ⟨k, Bs, hk, rfl, hin⟩ := hrel
      obtain ⟨oi, ci, rfl, hri⟩ := owns_is hin.ins (by rw [hdrs12_length])
      by_cases hlt : k < n
      · have hd1 : decide ((k : Int) < (n : Int)) = true := by simpa using hlt
        obtain ⟨b1, off1, p1, q1, rfl, hb1, hcellW, hrowW⟩ := HR.out.cell k (by rw [HN.out]; exact hlt)
        have hbl := HAL.out k (by rw [HN.out]; exact hlt)
        obtain ⟨b, hbe⟩ : ∃ b, bi bs k = b := ⟨_, rfl⟩
        rw [hbe] at hcellW hrowW hbl
        have hcell : X1.cell? ⟨b1, off1 + k, none⟩ = some (.slice p1 b.length q1) := by rw [hin.below.cell (p := ⟨b1, off1 + k, none⟩) hb1]; exact hcellW
        have hrow := hrowW.later hin.below
        have hrc := hrow.cap
        have hrl := hrow.le
        unfold maxLen at hrc
        simp only [bytesV_length] at hrl
        have BY := Lib.hid (bytes_any b p1 q1 X1 hrow (by omega))
        have HIN := Lib.hid hin
        have HBE := Lib.hid hbe
        clear hin hrow hbe hri hrowW hcellW
        go_wp2_with fail
        refine BY.out.mono ?_
        rintro e X3 ⟨B, rfl, hb3, hB3, hM3⟩
        have hin3 := HIN.out.later hb3
        obtain ⟨X4, hX4⟩ : ∃ X4, X3.alloc (.cells #[.slice (some ⟨B, 0, none⟩) b.length (b.length + 6)] 25) = X4 := ⟨_, rfl⟩
        have hb4 : Below X3.heap.size X3 X4 := by rw [← hX4]; exact below_new0 _ _
        have hin4 := hin3.later hb4
        have hA4 : Arr X4 X3.heap.size 25 [.slice (some ⟨B, 0, none⟩) b.length (b.length + 6)] := by rw [← hX4]; exact Arr.made _ _ _
        have HR4 : Hid (RowIs X4 (some ⟨X3.heap.size, 0, none⟩) [.slice (some ⟨B, 0, none⟩) b.length (b.length + 6)] 1) := Lib.hid
          ⟨by simp, by unfold maxLen; decide, fun h => by (cases h), fun h0 => ⟨X3.heap.size, 0, rfl, hA4.lt, fun i v hv => by rw [Nat.zero_add, hA4.cell]; exact hv⟩⟩
        have HIN4 := Lib.hid hin4
        have HM4 : Hid (MarkedAt X4 B (bi bs k)) := Lib.hid (by rw [HBE.out]; exact hM3.later hb4)
        have HX4 := Lib.hid hX4
        clear hb3 hB3 hM3 hin3 hb4 hin4 hA4 hX4 BY
        go_wp2_with (first | rw [HX4.out] | (at_builtin; refine append_rowsH rfl (.tmp 22) (.tmp 25) rfl w.heap.size _ k (hdrs12 bs Bs k) rfl HIN4.out.ins _ 1 1 [.slice (some ⟨B, 0, none⟩) b.length (b.length + 6)] rfl rfl HR4.out (fun u hu => by rw [List.mem_singleton] at hu; subst hu; rfl) (by omega) HIN4.out.below.size ?_))
        intro v5 X5 hv5 hg5
        have hin5 := HIN4.out.hdr HM4.out (by rw [HBE.out]; exact hv5) hg5
        have HIN5 := Lib.hid hin5
        clear hv5 hg5 hin5
        go_wp2_with fail
        exact ⟨⟨k + 1, _, by omega, by go_num, HIN5.out⟩, by simp [intOf]; omega⟩
      · obtain rfl : n = k := by omega
        have hd1 : decide ((n : Int) < (n : Int)) = false := by simp
        have hrb := hin.row HAL.out HN.out
        have hmk := hri
        have hll : ∀ N, 200 ≤ N → ∀ i, i < bs.length → (bi bs i).length ≤ N := fun N hN i hi => Nat.le_trans (HAL.out i hi) hN
        have TL := Lib.hid (tleaves_any bs oi n ci HN.out X1 hrb (HV.out.later hin.below) (by omega) (hll _ (by omega)))
        have HIN := Lib.hid hin
        have HLL := Lib.hid hll
        clear hin hri hmk hrb hll
        go_wp2_with fail
        refine TL.out.mono ?_
        rintro e X2 ⟨o2, c2, rfl, hdg2, hb2⟩
        have hin2 := HIN.out.later hb2
        have RL := Lib.hid (rleaves_any bs o n c HN.out X2 (HR.out.later hin2.below) (HD.out.later hin2.below) (by omega) (HLL.out _ (by omega)))
        have HIN2 := Lib.hid hin2
        have HG2 := Lib.hid hdg2
        clear TL HIN hb2 hdg2 hin2
        go_wp2_with fail
        refine RL.out.mono ?_
        rintro e X3 ⟨o3, c3, rfl, hdg3, hb3⟩
        have hin3 := HIN2.out.later hb3
        have hca2 := HG2.out.cap
        have hle2 := HG2.out.le
        have hca3 := hdg3.cap
        have hle3 := hdg3.le
        rw [List.length_map, HN.out] at hle2 hle3
        unfold maxLen at hca2 hca3
        have hciL := (hin3.row HAL.out HN.out).le
        rw [HN.out] at hciL
        obtain ⟨hci1, hci2⟩ := hciL
        unfold maxLen at hci2
        have HG23 := Lib.hid (HG2.out.later hb3)
        have HG3 := Lib.hid hdg3
        have HIN3 := Lib.hid hin3
        clear RL HIN2 HG2 hb3 hdg3 hin3
        have HR3 := Lib.hid (HR.out.later HIN3.out.below)
        have HV3 := Lib.hid (HV.out.later HIN3.out.below)
        have HD3 := Lib.hid (HD.out.later HIN3.out.below)
        go_wp2_with fail
        go_loopw [8, 9, 39] (fun _ _ i wr => Tr2 n X3 i wr) (fun _ _ i _ => n - (intOf i).toNat)
        case atStart => exact ⟨0, Nat.zero_le _, rfl, Below.refl _ _⟩
        case round =>
          rename World => V
          obtain ⟨k, hk, rfl, hbY⟩ := hrel
          by_cases hlt : k < n
          · have hd2 : decide ((k : Int) < (n : Int)) = true := by simpa using hlt
            have hkb : k < bs.length := by rw [HN.out]; exact hlt
            obtain ⟨b1, off1, p1, q1, rfl, hlt1, hcell1, hrow1⟩ := HR3.out.cell k hkb
            obtain ⟨b2, off2, rfl, hlt2, hrng2⟩ := HG23.out.at_ k (by rw [List.length_map]; exact hkb)
            obtain ⟨b3, off3, rfl, hlt3, hrng3⟩ := HG3.out.at_ k (by rw [List.length_map]; exact hkb)
            rw [bi_lf bs k hkb] at hrng2 hrng3
            obtain ⟨oi', ci', hoe, hri⟩ := owns_is HIN3.out.ins (by rw [hdrs12_length])
            cases hoe
            obtain ⟨b4, off4, rfl, hlt4, hcell4⟩ := hri.cells (by rw [hdrs12_length]; omega)
            have hmk := HIN3.out.mkd k hlt
            have hbl := HAL.out k hkb
            have hch : X3.cell? ⟨b4, off4 + k, none⟩ = some (.slice (some ⟨Bs k, 0, none⟩) (bi bs k).length ((bi bs k).length + 6)) := by
              refine hcell4 k _ ?_
              unfold hdrs12
              rw [List.getElem?_map, List.getElem?_range hlt]
              rfl
            obtain ⟨b, hbe⟩ : ∃ b, bi bs k = b := ⟨_, rfl⟩
            obtain ⟨B, hB⟩ : ∃ B, Bs k = B := ⟨_, rfl⟩
            rw [hbe] at hcell1 hrow1 hrng2 hrng3 hmk hbl hch
            rw [hB] at hmk hch
            obtain ⟨D, hD⟩ : ∃ D, (bytesV (Da.lf b)).toArray = D := ⟨_, rfl⟩
            have hrc := hrow1.cap
            have hrl := hrow1.le
            unfold maxLen at hrc
            simp only [bytesV_length] at hrl
            obtain ⟨Y1, hY1⟩ : ∃ Y1, V.alloc (.cells Z 32) = Y1 := ⟨_, rfl⟩
            obtain ⟨p9, hp9⟩ : ∃ p, V.heap.size = p := ⟨_, rfl⟩
            obtain ⟨Y2, hY2⟩ : ∃ Y2, Y1.setRow p9 D = Y2 := ⟨_, rfl⟩
            have hA1 : Arr Y1 p9 32 Z.toList := by rw [← hY1, ← hp9]; exact Arr.made _ _ _
            have hby1 : Below V.heap.size V Y1 := by rw [← hY1]; exact new12 _ _
            have hby2 : Below V.heap.size V Y2 := by rw [← hY2]; exact hby1.trans (below_row (Nat.le_of_eq hp9))
            have hA2 : Arr Y2 p9 32 (bytesV (Da.lf b)) := by unfold Arr; rw [← hY2, hD]; exact setRow_heap _ _ _ _ _ _ hA1
            have hbX := Kit.step hbY hby2
            have HDE := Lib.hid hD
            have HDS : Hid ((Tryd.prog.info? 32).map (·.size) = some D.size) := Lib.hid (by rw [dg_info, ← hD]; simp [Da.lf_length])
            have HRS : Hid ((Tryd.prog.info? 32).map (·.size) = some (bytesV (Da.lf b)).length) := Lib.hid (by rw [dg_info]; simp [Da.lf_length])
            have HDZ : Hid (Z.size = D.size) := Lib.hid (by rw [HZS.out, ← hD]; simp [Da.lf_length])
            have HDO : Hid (D.all (·.oneCell') = true) := Lib.hid (by rw [← hD]; exact all_oneCell_toArray (bytesV_one _))
            have HA1 : Hid (Y1.heap[p9]? = some (.cells Z 32 (0, 0))) := Lib.hid hA1
            have HRNG2 := Lib.hid (rangeAt_later hrng2 hbY hlt2)
            have HL9 : Hid (∀ v, Below Y2.heap.size Y2 v → (Instr.loadAt 32 (.pointer (some ⟨p9, 0, none⟩))).run Tryd.prog v = .ok (.agg D) v) := Lib.hid fun v hb => by
              have h1 := hA2.later hb hA2.lt
              unfold Arr at h1
              rw [hD] at h1
              exact dg_loadrow_run dg_under dgI_code h1 (by rw [← hD]; simp [Da.lf_length])
            have HL3 : Hid (∀ v, Below Y2.heap.size Y2 v → (Instr.loadAt 31 (.pointer (some ⟨b3, off3 + k * 32, none⟩))).run Tryd.prog v = .ok (.agg D) v) := Lib.hid fun v hb => by
              have h1 := dg_load_run (T := 31) d32_under dgI_doc (Da.lf_length b) (rangeAt_later hrng3 (Kit.step hbX hb) hlt3)
              rw [hD] at h1
              exact h1
            obtain ⟨L, hL⟩ : ∃ L, b.length = L := ⟨_, rfl⟩
            have HKE : Hid (∀ v, Below Y2.heap.size Y2 v → Calls Tryd.prog 12 #[.slice (some ⟨B, 0, none⟩) L (L + 6), .slice p1 L q1] v fun e w' => e = .returned (.bool true) ∧ Below Y2.heap.size Y2 w') := Lib.hid fun v hb => by
              have h1 := kept_any b B p1 q1 v (hmk.later (Kit.step hbX hb)) (hrow1.later (Kit.step hbX hb)) (by omega)
              rw [hL] at h1
              exact h1.mono fun e w' h => ⟨h.1, Kit.step hb h.2.below⟩
            have HLE : Hid (∀ v, Below Y2.heap.size Y2 v → Calls Tryd.prog 13 #[.slice p1 L q1] v fun e w' => e = .returned (.agg D) ∧ Below Y2.heap.size Y2 w') := Lib.hid fun v hb => by
              have h1 := tleaf_any b p1 q1 v (hrow1.later (Kit.step hbX hb)) (HV3.out.later (Kit.step hbX hb)) (by omega)
              rw [hL, hD] at h1
              exact h1.mono fun e w' h => ⟨h.1, Kit.step hb h.2⟩
            rw [hL] at hcell1 hch hrl hbl
            have HLI : Hid (∀ v, Below Y2.heap.size Y2 v → v.cell? ⟨b4, off4 + k, none⟩ = some (.slice (some ⟨B, 0, none⟩) L (L + 6))) := Lib.hid fun v hb => by
              rw [(Kit.step hbX hb).cell (p := ⟨b4, off4 + k, none⟩) hlt4]; exact hch
            have HLB : Hid (∀ v, Below Y2.heap.size Y2 v → v.cell? ⟨b1, off1 + k, none⟩ = some (.slice p1 L q1)) := Lib.hid fun v hb => by
              rw [(Kit.step hbX hb).cell (p := ⟨b1, off1 + k, none⟩) hlt1]; exact hcell1
            have hne : ∀ W, (binOp .neq 31 (.agg D) (.agg D)).run Tryd.prog W = .ok (.bool false) W := fun W => by
              have h1 := d32_neq (Da.lf b) (Da.lf b) (Da.lf_length b) (Da.lf_length b) W
              rw [HDE.out, beq_self_eq_true] at h1
              exact h1
            have hgd := d32_guard
            obtain ⟨C, hC⟩ : ∃ C : World → Prop, (fun v => Below Y2.heap.size Y2 v) = C := ⟨_, rfl⟩
            have hC0 : C { Y2 with drawn := Y2.drawn + 1 } := by rw [← hC]; exact Kit.dn' Y2 1
            have HCm : Hid (∀ v, C v → Below Y2.heap.size Y2 v) := Lib.hid fun v hv => by rw [← hC] at hv; exact hv
            have HCi : Hid (∀ v, Below Y2.heap.size Y2 v → C v) := Lib.hid fun v hv => by rw [← hC]; exact hv
            have HBX := Lib.hid hbX
            have HY1 := Lib.hid hY1
            have HY2 := Lib.hid hY2
            have HP9 := Lib.hid hp9
            have hk0 : (0 : Int) ≤ (k : Int) := by omega
            clear hC hL hD hbe hB hY1 hY2 hp9 hA1 hA2 hby1 hby2 hbX hbY hrng2 hrng3 hcell1 hch hcell4 hri hmk hrow1
            go_upto_region 17 with fail
            apply wp_region_lit
            (refine wpList_plain rfl (fun K hK => ?_); go_simp; refine hK _ _ ?_; clear hK K)
            (refine wpList_plain rfl (fun K hK => ?_); go_simp; refine hK _ _ ?_; clear hK K)
            refine wpList_load_mid rfl 32 (.tmp 42) rfl b2 (off2 + k * 32) rfl (bytesV (Da.lf b)) _ HRNG2.out dg_under rfl HRS.out ?_
            rw [HDE.out]
            (refine wpList_plain rfl (fun K hK => ?_); go_simp; refine hK _ _ ?_; clear hK K)
            rw [HY1.out, HP9.out]
            (refine wpList_plain rfl (fun K hK => ?_); go_simp; refine hK _ _ ?_; clear hK K)
            refine wpList_store_row rfl 32 (.tmp 9) (.tmp 43) rfl p9 D rfl rfl 32 Z HA1.out HDS.out HDZ.out HDO.out ?_
            rw [HY2.out]
            clear HY1 HY2 HP9 HA1 HRNG2
            go_upto_region 18 with fail
            refine wp_region_quiet (C := C) (by kernel_rfl) (by kernel_rfl) hC0 ?_
            simp only
            (refine wpQuiet_step (fun K hK => ?_); refine St.qk_val (x := .agg D) (by rfl) (fun w hw => exec_mid rfl rfl (HL9.out w (HCm.out w hw))) ?_; go_simp; refine hK _ ?_; clear hK K)
            (refine wpQuiet_step (fun K hK => ?_); refine St.qk_val (x := ?_) (by rfl) (fun w hw => ?_) ?_; rotate_left; (· go_simp <;> with_reducible rfl); go_simp; refine hK _ ?_; clear hK K)
            (refine wpQuiet_step (fun K hK => ?_); refine St.qk_val (x := ?_) (by rfl) (fun w hw => ?_) ?_; rotate_left; (· go_simp <;> with_reducible rfl); go_simp; refine hK _ ?_; clear hK K)
            (refine wpQuiet_step (fun K hK => ?_); refine St.qk_val (x := ?_) (by rfl) (fun w hw => ?_) ?_; rotate_left; (· go_simp <;> with_reducible rfl); go_simp; refine hK _ ?_; clear hK K)
            (refine wpQuiet_step (fun K hK => ?_); refine St.qk_val (x := .agg D) (by rfl) (fun w hw => exec_mid rfl rfl (HL3.out w (HCm.out w hw))) ?_; go_simp; refine hK _ ?_; clear hK K)
            (refine wpQuiet_step (fun K hK => ?_); refine St.qk_val (x := ?_) (by rfl) (fun w hw => ?_) ?_; rotate_left; (· go_simp <;> with_reducible rfl); go_simp; refine hK _ ?_; clear hK K)
            (refine wpQuiet_step (fun K hK => ?_); refine St.qk_val (x := ?_) (by rfl) (fun w hw => ?_) ?_; rotate_left; (· go_simp <;> with_reducible rfl); go_simp; refine hK _ ?_; clear hK K)
            (refine wpQuiet_step (fun K hK => ?_); refine St.qk_val (x := ?_) (by rfl) (fun w hw => ?_) ?_; rotate_left; (· go_simp <;> with_reducible rfl); go_simp; refine hK _ ?_; clear hK K)
            (refine wpQuiet_step (fun K hK => ?_); refine St.qk_val (x := ?_) (by rfl) (fun w hw => ?_) ?_; rotate_left; (· go_simp <;> with_reducible rfl); go_simp; refine hK _ ?_; clear hK K)
            (refine wpQuiet_step (fun K hK => ?_); refine St.qk_val (x := ?_) (by rfl) (fun w hw => ?_) ?_; rotate_left; (· go_simp <;> with_reducible rfl); go_simp; refine hK _ ?_; clear hK K)
            (refine wpQuiet_step (fun K hK => ?_); refine St.qk_val (x := .slice (some ⟨B, 0, none⟩) L (L + 6)) (by rfl) (fun w hw => by have hcc := HLI.out w (HCm.out w hw); go_simp) ?_; go_simp; refine hK _ ?_; clear hK K)
            (refine wpQuiet_step (fun K hK => ?_); refine St.qk_val (x := ?_) (by rfl) (fun w hw => ?_) ?_; rotate_left; (· go_simp <;> with_reducible rfl); go_simp; refine hK _ ?_; clear hK K)
            (refine wpQuiet_step (fun K hK => ?_); refine St.qk_val (x := ?_) (by rfl) (fun w hw => ?_) ?_; rotate_left; (· go_simp <;> with_reducible rfl); go_simp; refine hK _ ?_; clear hK K)
            (refine wpQuiet_step (fun K hK => ?_); refine St.qk_val (x := ?_) (by rfl) (fun w hw => ?_) ?_; rotate_left; (· go_simp <;> with_reducible rfl); go_simp; refine hK _ ?_; clear hK K)
            (refine wpQuiet_step (fun K hK => ?_); refine St.qk_val (x := .slice p1 L q1) (by rfl) (fun w hw => by have hcc := HLB.out w (HCm.out w hw); go_simp) ?_; go_simp; refine hK _ ?_; clear hK K)
            (refine wpQuiet_step (fun K hK => ?_); refine St.qk_call (by rfl) 12 _ _ rfl #[.slice (some ⟨B, 0, none⟩) L (L + 6), .slice p1 L q1] (by go_simp) (fun w => by simp [go_sem]) (.bool true) (fun v hv => (HKE.out v (HCm.out v hv)).mono (fun e w' h => ⟨h.1, HCi.out _ h.2⟩)) ?_; go_simp; refine hK _ ?_; clear hK K)
            (refine wpQuiet_step (fun K hK => ?_); refine St.qk_val (x := ?_) (by rfl) (fun w hw => ?_) ?_; rotate_left; (· go_simp <;> with_reducible rfl); go_simp; refine hK _ ?_; clear hK K)
            (refine wpQuiet_step (fun K hK => ?_); refine St.qk_val (x := ?_) (by rfl) (fun w hw => ?_) ?_; rotate_left; (· go_simp <;> with_reducible rfl); go_simp; refine hK _ ?_; clear hK K)
            (refine wpQuiet_step (fun K hK => ?_); refine St.qk_val (x := ?_) (by rfl) (fun w hw => ?_) ?_; rotate_left; (· go_simp <;> with_reducible rfl); go_simp; refine hK _ ?_; clear hK K)
            (refine wpQuiet_step (fun K hK => ?_); refine St.qk_val (x := ?_) (by rfl) (fun w hw => ?_) ?_; rotate_left; (· go_simp <;> with_reducible rfl); go_simp; refine hK _ ?_; clear hK K)
            (refine wpQuiet_step (fun K hK => ?_); refine St.qk_val (x := ?_) (by rfl) (fun w hw => ?_) ?_; rotate_left; (· go_simp <;> with_reducible rfl); go_simp; refine hK _ ?_; clear hK K)
            (refine wpQuiet_step (fun K hK => ?_); refine St.qk_val (x := ?_) (by rfl) (fun w hw => ?_) ?_; rotate_left; (· go_simp <;> with_reducible rfl); go_simp; refine hK _ ?_; clear hK K)
            (refine wpQuiet_step (fun K hK => ?_); refine St.qk_val (x := .slice p1 L q1) (by rfl) (fun w hw => by have hcc := HLB.out w (HCm.out w hw); go_simp) ?_; go_simp; refine hK _ ?_; clear hK K)
            (refine wpQuiet_step (fun K hK => ?_); refine St.qk_call (by rfl) 13 _ _ rfl #[.slice p1 L q1] (by go_simp) (fun w => by simp [go_sem]) (.agg D) (fun v hv => (HLE.out v (HCm.out v hv)).mono (fun e w' h => ⟨h.1, HCi.out _ h.2⟩)) ?_; go_simp; refine hK _ ?_; clear hK K)
            (refine wpQuiet_step (fun K hK => ?_); refine St.qk_val (x := ?_) (by rfl) (fun w hw => ?_) ?_; rotate_left; (· go_simp <;> with_reducible rfl); go_simp; refine hK _ ?_; clear hK K)
            (refine wpQuiet_step (fun K hK => ?_); refine St.qk_val (x := ?_) (by rfl) (fun w hw => ?_) ?_; rotate_left; (· go_simp <;> with_reducible rfl); go_simp; refine hK _ ?_; clear hK K)
            (refine wpQuiet_step (fun K hK => ?_); refine St.qk_val (x := ?_) (by rfl) (fun w hw => ?_) ?_; rotate_left; (· go_simp <;> with_reducible rfl); go_simp; refine hK _ ?_; clear hK K)
            (refine wpQuiet_step (fun K hK => ?_); refine St.qk_val (x := .agg D) (by rfl) (fun w hw => exec_mid rfl rfl (HL3.out w (HCm.out w hw))) ?_; go_simp; refine hK _ ?_; clear hK K)
            (refine wpQuiet_step (fun K hK => ?_); refine St.qk_val (x := ?_) (by rfl) (fun w hw => ?_) ?_; rotate_left; (· go_simp <;> with_reducible rfl); go_simp; refine hK _ ?_; clear hK K)
            (refine wpQuiet_step (fun K hK => ?_); refine St.qk_val (x := ?_) (by rfl) (fun w hw => ?_) ?_; rotate_left; (· go_simp <;> with_reducible rfl); go_simp; refine hK _ ?_; clear hK K)
            refine wpQuiet_nil ?_
            intro X8 hX8
            have HB8 := Lib.hid (Kit.step HBX.out (HCm.out X8 hX8))
            clear hX8 hC0 HL9 HL3 HKE HLE HLI HLB hne
            go_wp2_with fail
            exact ⟨⟨k + 1, by omega, by go_num, HB8.out⟩, by simp [intOf]; omega⟩
          · obtain rfl : n = k := by omega
            have hd2 : decide ((n : Int) < (n : Int)) = false := by simp
            have RR := rroot_any bs o n c HN.out V (HR3.out.later hbY) (HD3.out.later hbY) (by omega) (HLL.out _ (by omega))
            have hml := Da.mth_length bs
            obtain ⟨M, hM⟩ : ∃ M, (bytesV (Da.mth bs)).toArray = M := ⟨_, rfl⟩
            rw [hM] at RR
            have HRR := Lib.hid RR
            have HME := Lib.hid hM
            have HMS : Hid ((Tryd.prog.info? 31).map (·.size) = some M.size) := Lib.hid (by rw [d32_info, ← hM]; simp [hml])
            have HMZ : Hid (Y.size = M.size) := Lib.hid (by rw [HYS.out, ← hM]; simp [hml])
            have HMO : Hid (M.all (·.oneCell') = true) := Lib.hid (by rw [← hM]; exact all_oneCell_toArray (bytesV_one _))
            have HBY := Lib.hid hbY
            clear RR hM hbY hml
            go_upto_region 21 with fail
            apply wp_region_lit
            (refine wpList_plain rfl (fun K hK => ?_); go_simp; refine hK _ _ ?_; clear hK K)
            (refine wpList_plain rfl (fun K hK => ?_); go_simp)
            refine HRR.out.mono ?_
            rintro e Y0 ⟨rfl, hb0⟩
            refine hK _ _ ?_
            clear hK K HRR
            obtain ⟨Y1, hY1⟩ : ∃ Y1, Y0.alloc (.cells Y 31) = Y1 := ⟨_, rfl⟩
            obtain ⟨p9, hp9⟩ : ∃ p, Y0.heap.size = p := ⟨_, rfl⟩
            obtain ⟨Y2, hY2⟩ : ∃ Y2, Y1.setRow p9 M = Y2 := ⟨_, rfl⟩
            have hA1 : Arr Y1 p9 31 Y.toList := by rw [← hY1, ← hp9]; exact Arr.made _ _ _
            have hby1 : Below Y0.heap.size Y0 Y1 := by rw [← hY1]; exact new12 _ _
            have hby2 : Below Y0.heap.size Y0 Y2 := by rw [← hY2]; exact hby1.trans (below_row (Nat.le_of_eq hp9))
            have hA2 : Arr Y2 p9 31 (bytesV (Da.mth bs)) := by unfold Arr; rw [← hY2, HME.out]; exact setRow_heap _ _ _ _ _ _ hA1
            have hbX := Kit.step (Kit.step HBY.out hb0) hby2
            have HA1 : Hid (Y1.heap[p9]? = some (.cells Y 31 (0, 0))) := Lib.hid hA1
            have HL10 : Hid (∀ v, Below Y2.heap.size Y2 v → (Instr.loadAt 31 (.pointer (some ⟨p9, 0, none⟩))).run Tryd.prog v = .ok (.agg M) v) := Lib.hid fun v hb => by
              have h1 := hA2.later hb hA2.lt
              unfold Arr at h1
              rw [HME.out] at h1
              exact dg_loadrow_run d32_under dgI_doc h1 (by rw [← HME.out]; simp [Da.mth_length])
            have HTR : Hid (∀ v, Below Y2.heap.size Y2 v → Calls Tryd.prog 15 #[.slice oi n ci] v fun e w' => e = .returned (.agg M) ∧ Below Y2.heap.size Y2 w') := Lib.hid fun v hb => by
              have h0 := Kit.step hbX hb
              have h1 := troot_any bs oi n ci HN.out v ((HIN3.out.later h0).row HAL.out HN.out) (HV3.out.later h0) (by rw [HN.out]; omega) (HLL.out _ (by omega))
              rw [HME.out] at h1
              exact h1.mono fun e w' h => ⟨h.1, Kit.step hb h.2⟩
            have HOV : Hid (∀ v, Below Y2.heap.size Y2 v → Calls Tryd.prog 16 #[.slice o2 n c2] v fun e w' => e = .returned (.agg M) ∧ Below Y2.heap.size Y2 w') := Lib.hid fun v hb => by
              have h0 := Kit.step hbX hb
              have h1 := tover_any (bs.map Da.lf) o2 n c2 (by rw [List.length_map]; exact HN.out) v (HG23.out.later h0) (HV3.out.later h0) (by rw [List.length_map, HN.out]; omega)
              rw [show Da.ov (bs.map Da.lf) = Da.mth bs from rfl, HME.out] at h1
              exact h1.mono fun e w' h => ⟨h.1, Kit.step hb h.2⟩
            have heq : ∀ W, (binOp .eql 31 (.agg M) (.agg M)).run Tryd.prog W = .ok (.bool true) W := fun W => by
              have h1 := d32_eql (Da.mth bs) (Da.mth bs) (Da.mth_length bs) (Da.mth_length bs) W
              rw [HME.out, beq_self_eq_true] at h1
              exact h1
            have hgd := d32_guard
            obtain ⟨C, hC⟩ : ∃ C : World → Prop, (fun v => Below Y2.heap.size Y2 v) = C := ⟨_, rfl⟩
            have hC0 : C { Y2 with drawn := Y2.drawn + 1 } := by rw [← hC]; exact Kit.dn' Y2 1
            have HCm : Hid (∀ v, C v → Below Y2.heap.size Y2 v) := Lib.hid fun v hv => by rw [← hC] at hv; exact hv
            have HCi : Hid (∀ v, Below Y2.heap.size Y2 v → C v) := Lib.hid fun v hv => by rw [← hC]; exact hv
            have HBX : Hid (Below w.heap.size w Y2) := Lib.hid (Kit.step HIN3.out.below hbX)
            have HY1 := Lib.hid hY1
            have HY2 := Lib.hid hY2
            have HP9 := Lib.hid hp9
            clear hC hY1 hY2 hp9 hA1 hA2 hby1 hby2 hbX hb0
            (refine wpList_plain rfl (fun K hK => ?_); go_simp; refine hK _ _ ?_; clear hK K)
            rw [HY1.out, HP9.out]
            refine wpList_store_row rfl 31 (.tmp 10) (.tmp 76) rfl p9 M rfl rfl 31 Y HA1.out HMS.out HMZ.out HMO.out ?_
            rw [HY2.out]
            clear HY1 HY2 HP9 HA1
            go_upto_region 22 with fail
            refine wp_region_quiet (C := C) (by kernel_rfl) (by kernel_rfl) hC0 ?_
            simp only
            (refine wpQuiet_step (fun K hK => ?_); refine St.qk_val (x := ?_) (by rfl) (fun w hw => ?_) ?_; rotate_left; (· go_simp <;> with_reducible rfl); go_simp; refine hK _ ?_; clear hK K)
            (refine wpQuiet_step (fun K hK => ?_); refine St.qk_call (by rfl) 15 _ _ rfl #[.slice oi n ci] (by go_simp) (fun w => by simp [go_sem]) (.agg M) (fun v hv => (HTR.out v (HCm.out v hv)).mono (fun e w' h => ⟨h.1, HCi.out _ h.2⟩)) ?_; go_simp; refine hK _ ?_; clear hK K)
            (refine wpQuiet_step (fun K hK => ?_); refine St.qk_val (x := .agg M) (by rfl) (fun w hw => exec_mid rfl rfl (HL10.out w (HCm.out w hw))) ?_; go_simp; refine hK _ ?_; clear hK K)
            (refine wpQuiet_step (fun K hK => ?_); refine St.qk_val (x := ?_) (by rfl) (fun w hw => ?_) ?_; rotate_left; (· go_simp <;> with_reducible rfl); go_simp; refine hK _ ?_; clear hK K)
            (refine wpQuiet_step (fun K hK => ?_); refine St.qk_val (x := ?_) (by rfl) (fun w hw => ?_) ?_; rotate_left; (· go_simp <;> with_reducible rfl); go_simp; refine hK _ ?_; clear hK K)
            (refine wpQuiet_step (fun K hK => ?_); refine St.qk_val (x := ?_) (by rfl) (fun w hw => ?_) ?_; rotate_left; (· go_simp <;> with_reducible rfl); go_simp; refine hK _ ?_; clear hK K)
            (refine wpQuiet_step (fun K hK => ?_); refine St.qk_call (by rfl) 16 _ _ rfl #[.slice o2 n c2] (by go_simp) (fun w => by simp [go_sem]) (.agg M) (fun v hv => (HOV.out v (HCm.out v hv)).mono (fun e w' h => ⟨h.1, HCi.out _ h.2⟩)) ?_; go_simp; refine hK _ ?_; clear hK K)
            (refine wpQuiet_step (fun K hK => ?_); refine St.qk_val (x := .agg M) (by rfl) (fun w hw => exec_mid rfl rfl (HL10.out w (HCm.out w hw))) ?_; go_simp; refine hK _ ?_; clear hK K)
            (refine wpQuiet_step (fun K hK => ?_); refine St.qk_val (x := ?_) (by rfl) (fun w hw => ?_) ?_; rotate_left; (· go_simp <;> with_reducible rfl); go_simp; refine hK _ ?_; clear hK K)
            (refine wpQuiet_step (fun K hK => ?_); refine St.qk_val (x := ?_) (by rfl) (fun w hw => ?_) ?_; rotate_left; (· go_simp <;> with_reducible rfl); go_simp; refine hK _ ?_; clear hK K)
            (refine wpQuiet_step (fun K hK => ?_); refine St.qk_val (x := ?_) (by rfl) (fun w hw => ?_) ?_; rotate_left; (· go_simp <;> with_reducible rfl); go_simp; refine hK _ ?_; clear hK K)
            refine wpQuiet_nil ?_
            intro X8 hX8
            have HB8 := Lib.hid (Kit.step HBX.out (HCm.out X8 hX8))
            clear hX8 hC0
            go_wp2_with fail
            go_ret
            exact ⟨rfl, HB8.out⟩
theorem tr12_any (bs : List (List UInt8)) (o : Option Addr) (c : Nat) (w : World) (hR : RbIs w o bs c) (hV : Cds w) (hD : Rds w) :
    Calls Tryd.prog 3 #[.slice o bs.length c] w fun e w' => e = .returned (.bool true) ∧ Below w.heap.size w w' := tr12_of _ _ rfl dg_zero rfl d32_zero bs o c w hR hV hD
end Go.Proofs.YtmfbdelhkdimaaaDoor
