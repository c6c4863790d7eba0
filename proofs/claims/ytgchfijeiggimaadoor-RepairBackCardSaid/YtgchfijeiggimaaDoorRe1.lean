/- The walk of RepairErased. -/
import Derived.Test.YtgchfijeiggimaaDoorAl5
namespace Go.Proofs.YtgchfijeiggimaaDoor
open Go.RowKit
set_option linter.unusedVariables false
set_option linter.unusedSimpArgs false
/-- behind k erased places -/
def Er1At (V : List UInt8) (M N gg g cap base : Nat) (w0 : World) (pv iv : Value) (wr : World) : Prop :=
  ∃ k : Nat, k ≤ M ∧ iv = .int .i64 k ∧ ∃ (W : List UInt8) (z : List Int), W.length = N ∧ wr.ownsRow base 3 1 pv z.length (intsV z) ∧ BRow wr gg N (fun p => decide ((p : Int) ∈ z)) ∧ Buf wr g cap W ∧ Below w0.heap.size w0 wr ∧
    z.length ≤ k ∧ z.Nodup ∧ (∀ q ∈ z, 0 ≤ q ∧ q < N) ∧ ∀ p, p < N → (p : Int) ∉ z → co W p = co V p
theorem eok_of {z : List Int} {n : Nat} (hl : z.length ≤ 32) (hn : z.Nodup) (hr : ∀ q ∈ z, 0 ≤ q ∧ q < (n : Int)) : EOk n z := by
  have hm : ∀ k (hk : k < z.length), ci z k = z[k] := fun k hk => by
    unfold ci
    rw [List.getD_eq_getElem?_getD, List.getElem?_eq_getElem hk]
    rfl
  refine ⟨fun k hk => ?_, fun i j hj hi => ?_, hl⟩
  · rw [hm k hk]
    exact hr _ (List.getElem_mem hk)
  · rw [hm i hi, hm j (by omega)]
    rw [List.nodup_iff_pairwise_ne, List.pairwise_iff_getElem] at hn
    exact fun e => hn j i (by omega) hi hj e.symm
theorem chg_gone {V W : List UInt8} {z : List Int} {N : Nat} (hc : IsCode V) (hV : V.length = N) (hW : W.length = N) (hN : N ≤ 255) (hok : EOk N z) (he : ∀ p, p < N → (p : Int) ∉ z → co W p = co V p) : Chg V W N z [] :=
  ⟨hc, hV, hW, hN, hok, List.nodup_nil, (fun p hp => by cases hp), (fun p hp hne hz => absurd (he p hp hz) hne), by have := hok.2.2; simp; omega⟩
theorem er1_long (m k : Nat) (y : Int) (o oe : Option Addr) (c ce : Nat) (w : World) (h : 223 < m ∨ 32 < k) (hm : m ≤ 9223372036854775807) (hk : k ≤ 9223372036854775807) :
    Calls Tryd.prog 6 #[.slice o m c, .slice oe k ce, .int .u8 y] w fun e w' => e = .returned (.bool true) ∧ Below w.heap.size w w' := by
  by_cases h1 : 223 < m
  · have hd1 : decide ((223 : Int) < (m : Int)) = true := decide_eq_true (by omega)
    clear h h1
    go_enter Tryd.func6, Tryd.ntmps6
    go_wp2_with fail
    refine (alive5_any _).mono ?_; rintro e w1 ⟨rfl, hb⟩
    have HB := Lib.hid hb
    clear hb
    go_wp2_with fail
    go_ret
    exact ⟨rfl, HB.out⟩
  · have hd1 : decide ((223 : Int) < (m : Int)) = false := decide_eq_false (by omega)
    have hd2 : decide ((32 : Int) < (k : Int)) = true := decide_eq_true (by omega)
    clear h h1
    go_enter Tryd.func6, Tryd.ntmps6
    go_wp2_with fail
    refine (alive5_any _).mono ?_; rintro e w1 ⟨rfl, hb⟩
    have HB := Lib.hid hb
    clear hb
    go_wp2_with fail
    go_ret
    exact ⟨rfl, HB.out⟩
set_option maxRecDepth 100000 in
set_option maxHeartbeats 4000000 in
theorem er1_zero (k : Nat) (y : Int) (o oe : Option Addr) (c ce : Nat) (w : World) (A : Nat → Addr) (hE : Er.Six w A) (hk : k ≤ 32) :
    Calls Tryd.prog 6 #[.slice o 0 c, .slice oe k ce, .int .u8 y] w fun e w' => e = .returned (.bool true) ∧ Below w.heap.size w w' := by
  have hd2 : decide ((32 : Int) < (k : Int)) = false := decide_eq_false (by omega)
  have HE := Lib.hid hE
  clear hE
  go_enter Tryd.func6, Tryd.ntmps6
  go_wp2_with fail
  refine (alive5_any _).mono ?_; rintro e w1 ⟨rfl, hb⟩
  have HB := Lib.hid hb
  have HEN := Lib.hid (encode_size 0 c o w1 _ (HE.out.later hb).c7 (.inl (by omega)) (by omega))
  clear hb
  go_wp2_with fail
  refine HEN.out.mono ?_; rintro e w2 ⟨rfl, hb⟩
  have HB2 := Lib.hid (Kit.step HB.out hb)
  clear hb HEN
  go_wp2_with fail
  go_ret
  exact ⟨rfl, HB2.out⟩
set_option maxRecDepth 100000 in
set_option maxHeartbeats 8000000 in
theorem er1_main (d : List UInt8) (zs : List Int) (y : UInt8) (o oz : Option Addr) (c cz : Nat) (w : World) (hP : RowIs w o (bytesV d) c) (hZ : RowIs w oz (intsV zs) cz) (hl1 : 1 ≤ d.length) (hl2 : d.length ≤ 223) (hl3 : zs.length ≤ 32) (hr64 : ∀ k, k < zs.length → -9223372036854775808 ≤ ci zs k ∧ ci zs k ≤ 9223372036854775807) :
    Calls Tryd.prog 6 #[.slice o d.length c, .slice oz zs.length cz, .int .u8 (y.toNat : Int)] w fun e w' => e = .returned (.bool true) ∧ Below w.heap.size w w' := by
  have h1 := hP.le
  have h2 := hP.cap
  have h3 := hZ.le
  have h4 := hZ.cap
  simp only [bytesV_length, intsV_length] at h1 h3
  unfold maxLen at h2 h4
  have HP := Lib.hid hP
  have HZ := Lib.hid hZ
  have HR64 := Lib.hid hr64
  have hd1 : decide ((223 : Int) < (d.length : Int)) = false := decide_eq_false (by omega)
  have hd2 : decide ((32 : Int) < (zs.length : Int)) = false := decide_eq_false (by omega)
  clear hP hZ hr64
  go_enter Tryd.func6, Tryd.ntmps6
  go_wp2_with fail
  refine (alive5_any _).mono ?_; rintro e w1 ⟨rfl, hb⟩
  have HB1 := Lib.hid hb
  clear hb
  go_wp2_with fail
  refine (encode_own d o c w1 (HP.out.later HB1.out) hl1 hl2).mono ?_; rintro e w2 ⟨r, gv, capv, hr, hc, rfl, hg, hbu, hb⟩
  obtain ⟨V, hV⟩ : ∃ V, d ++ r = V := ⟨_, rfl⟩
  have hVl : V.length = d.length + 32 := by rw [← hV, List.length_append, hr]
  rw [hV] at hc hbu ⊢
  obtain ⟨N, hN⟩ : ∃ N, V.length = N := ⟨_, rfl⟩
  rw [hN] at hVl ⊢
  have HVC := Lib.hid hc
  have HVN := Lib.hid hN
  have HB2 := Lib.hid (Kit.step HB1.out hb)
  have HVR := Lib.hid hbu.row
  have hcv := hbu.le
  rw [hN] at hcv
  have hcv1 := hcv.1
  have hcv2 := hcv.2
  unfold maxLen at hcv2
  have hN1 : N ≤ 255 := by omega
  have hN2 : 33 ≤ N := by omega
  have hwN : IntKind.i64.wrap ((d.length : Int) + 32) = (N : Int) := by rw [IntKind.wrap_i64]; omega
  have hNi : (d.length : Int) + 32 = (N : Int) := by omega
  have hmk := make_bools4 N (by omega)
  obtain ⟨w3, hw3⟩ : ∃ w3, w2.alloc (.cells #[] 5) = w3 := ⟨_, rfl⟩
  have hb3 : Below w2.heap.size w2 w3 := by rw [← hw3]; exact (Below.refl _ _).alloc (Nat.le_refl _) _
  have HO3 : Hid (w3.ownsRow w2.heap.size 5 1 (.slice (some ⟨w2.heap.size, 0, none⟩) 0 0) 0 (bytesV [])) := Lib.hid (by rw [← hw3]; exact World.ownsRow_lit w2 #[] 0 (Nat.le_refl _) (Nat.zero_le _) rfl)
  have HV3 := Lib.hid (hbu.row.later hb3)
  have HB3 := Lib.hid hb3
  have HW3 := Lib.hid hw3
  clear hr hc hV hN hg hbu hb hVl hw3 hb3 hcv
  go_wp2_with (first | rw [HW3.out] | (at_builtin; refine append_row rfl (.tmp 48) (.tmp 49) rfl w2.heap.size _ 0 [] rfl HO3.out (some ⟨gv, 0, none⟩) N capv V rfl HVN.out.symm HV3.out (by omega) HB3.out.size ?_))
  intro v4 w4 hv4 hg4
  obtain ⟨g, cap, rfl, hgb, hbu⟩ := own_buf hv4 (by omega) HVN.out.symm
  have HB4 := Lib.hid (own_below (n := 0) HB3.out HO3.out hg4)
  have HBU4 := Lib.hid hbu
  have HGB := Lib.hid hgb
  rw [HVN.out]
  have hca := hbu.le
  rw [HVN.out] at hca
  have hca1 := hca.1
  have hca2 := hca.2
  unfold maxLen at hca2
  clear hv4 hg4 hbu hgb hca
  obtain ⟨w5, hw5⟩ : ∃ w5, w4.alloc (.cells (Array.replicate N (.bool false)) 4) = w5 := ⟨_, rfl⟩
  have hb5 : Below w4.heap.size w4 w5 := by rw [← hw5]; exact (Below.refl _ _).alloc (Nat.le_refl _) _
  have hbr5 : BRow w5 w4.heap.size N (fun _ => false) := by rw [← hw5]; exact brow_new w4 N
  obtain ⟨gg, hgg⟩ : ∃ gg, w4.heap.size = gg := ⟨_, rfl⟩
  have hgl := HBU4.out.lt
  rw [hgg] at hbr5 hgl
  have HNG : Hid (g ≠ gg) := Lib.hid (by omega)
  have HLG : Hid (w2.heap.size ≤ gg) := Lib.hid (by have := HB4.out.size; omega)
  have HBU5 := Lib.hid (HBU4.out.later hb5)
  have HB5 := Lib.hid (Kit.step HB4.out hb5)
  obtain ⟨w6, hw6⟩ : ∃ w6, w5.alloc (.cells #[] 3) = w6 := ⟨_, rfl⟩
  have hb6 : Below w5.heap.size w5 w6 := by rw [← hw6]; exact (Below.refl _ _).alloc (Nat.le_refl _) _
  have HO6 : Hid (w6.ownsRow w2.heap.size 3 1 (.slice (some ⟨w5.heap.size, 0, none⟩) 0 0) 0 (intsV [])) := Lib.hid (by rw [← hw6]; exact World.ownsRow_lit w5 #[] 0 HB5.out.size (Nat.zero_le _) rfl)
  have HG6 : Hid (BRow w6 gg N (fun p => decide ((p : Int) ∈ ([] : List Int)))) := Lib.hid ((hbr5.later hb6).cong fun i _ => by simp)
  have HBU6 := Lib.hid (HBU5.out.later hb6)
  have HB6 := Lib.hid (Kit.step HB5.out hb6)
  have HW5 := Lib.hid hw5
  have HW6 := Lib.hid hw6
  have HGG := Lib.hid hgg
  clear hb5 hbr5 hgl hw5 hb6 hw6 hgg
  go_wp2_with (first | rw [HW5.out] | rw [HW6.out])
  rw [HGG.out]
  go_loopw [11, 12, 13, 14, 57] (fun pv _ _ _ iv wr => Er1At V zs.length N gg g cap w2.heap.size w2 pv iv wr) (fun _ _ _ _ iv _ => zs.length - (intOf iv).toNat)
  case atStart => exact ⟨0, Nat.zero_le _, rfl, V, [], HVN.out, HO6.out, HG6.out, HBU6.out, HB6.out, Nat.le_refl _, List.nodup_nil, fun q hq => (by cases hq), fun p _ _ => rfl⟩
  case round =>
    clear HO6 HG6 HBU6 HB6 HW6 HO3 HB4 HBU4 HB5 HBU5 HW5 HV3
    obtain ⟨k, hk, rfl, W, z, hWl, hown, hbg, hbu, hb, hzk, hnd, hzr, heq⟩ := hrel
    have HWL := Lib.hid hWl
    have HO := Lib.hid hown
    have HG := Lib.hid hbg
    have HU := Lib.hid hbu
    have HB := Lib.hid hb
    have HND := Lib.hid hnd
    have HZR := Lib.hid hzr
    have HEQ := Lib.hid heq
    by_cases hlt : k < zs.length
    · obtain ⟨b, off, rfl, hcell⟩ := ints_cell (HZ.out.later (Kit.step HB2.out hb)) k hlt
      have hqw := HR64.out k hlt
      obtain ⟨q, hq⟩ : ∃ q, ci zs k = q := ⟨_, rfl⟩
      rw [hq] at hcell hqw
      obtain ⟨u, hu⟩ : ∃ u, (q % 18446744073709551616).toNat = u := ⟨_, rfl⟩
      have hwu : IntKind.u64.wrap q = (u : Int) := by rw [wrap_u644, hu]
      have hwn : IntKind.u64.wrap (N : Int) = (N : Int) := by rw [wrap_u644]; omega
      obtain ⟨p, hp⟩ : ∃ p, u % N = p := ⟨_, rfl⟩
      have hpl : p < N := by rw [← hp]; exact Nat.mod_lt _ (by omega)
      have htm : Int.tmod (u : Int) (N : Int) = (p : Int) := by rw [← hp]; rfl
      have hwp : IntKind.u64.wrap (p : Int) = (p : Int) := by rw [wrap_u644]; omega
      have hwp2 : IntKind.i64.wrap (p : Int) = (p : Int) := by rw [IntKind.wrap_i64]; omega
      have hk0 : (0 : Int) ≤ (k : Int) := by omega
      have hk1 : (k : Int) < (zs.length : Int) := by omega
      have hN0 : ((N : Int) == 0) = false := beq_false_of_ne (by omega)
      have hN00 : ¬ (N : Int) = 0 := by omega
      have hp0 : (0 : Int) ≤ (p : Int) := by omega
      have hp1 : (p : Int) < (N : Int) := by omega
      have HPL := Lib.hid hpl
      have hcg := hbg.cell p hpl
      have hfg := hbg.frozen p
      by_cases hpz : (p : Int) ∈ z
      · rw [decide_eq_true hpz] at hcg
        clear hbg hbu hb hnd hzr heq hWl hq hu hp hown hpl hpz
        go_wp2_with fail
        go_roundw
        case rel => exact ⟨k + 1, by omega, by go_num, W, z, HWL.out, HO.out, HG.out, HU.out, HB.out, by omega, HND.out, HZR.out, HEQ.out⟩
        case measure => simp [intOf]; omega
      · rw [decide_eq_false hpz] at hcg
        have HPZ := Lib.hid hpz
        obtain ⟨w7, hw7⟩ : ∃ w7, wr.setCell ⟨gg, p, none⟩ (.bool true) = w7 := ⟨_, rfl⟩
        have hst := hbg.store p true
        rw [hw7] at hst
        have hg7 : BRow w7 gg N (fun q => decide ((q : Int) ∈ z ++ [(p : Int)])) := hst.1.cong fun i _ => by
          by_cases e : i = p
          · simp [e]
          · have e2 : ¬ (i : Int) = (p : Int) := by omega
            simp [e, e2]
        have hu7 : Buf w7 g cap W := buf_same4 hbu (World.grownBy.block hst.2 g hbu.lt (fun e => HNG.out (by cases e; rfl)))
        have ho7 := own_only hown hst.2 (show wr.heap[gg]? = some (.cells _ _ _) from hbg) (by decide)
        have hb7 : Below w2.heap.size w2 w7 := hb.trans (Only.below hst.2 HLG.out hb.size)
        obtain ⟨w8, hw8⟩ : ∃ w8, w7.alloc (.cells #[.int .i64 (p : Int)] 3) = w8 := ⟨_, rfl⟩
        have hb8 : Below w7.heap.size w7 w8 := by rw [← hw8]; exact (Below.refl _ _).alloc (Nat.le_refl _) _
        have HO8 := Lib.hid (own_laterI ho7 hb8)
        have HC8 : Hid (w8.cell? ⟨w7.heap.size, 0, none⟩ = some (.int .i64 (p : Int))) := Lib.hid (by rw [← hw8, cell_of_row _ _ 0 _ _ _ (World.alloc_heap_new w7 _)]; rfl)
        have HB8 := Lib.hid (Kit.step hb7 hb8)
        have HG8 := Lib.hid (hg7.later hb8)
        have HU8 := Lib.hid (hu7.later hb8)
        have HW7 := Lib.hid hw7
        have HW8 := Lib.hid hw8
        clear hpz hst hw7 hg7 hu7 ho7 hb7 hw8 hb8 hbg hbu hb hnd hzr heq hWl hq hu hp hown hpl
        have hwk : IntKind.u8.wrap (k : Int) = ((UInt8.ofNat k).toNat : Int) := by
          rw [UInt8.toNat_ofNat']
          have : IntKind.u8.wrap (k : Int) = (k : Int) % 256 := by simp [IntKind.wrap, IntKind.bits, IntKind.signed]
          rw [this]
          omega
        have hx := u8c y (UInt8.ofNat k)
        obtain ⟨yk, hyk⟩ : ∃ yk, UInt8.ofNat k = yk := ⟨_, rfl⟩
        rw [hyk] at hwk hx
        obtain ⟨xx, hxx⟩ : ∃ xx, y ^^^ yk = xx := ⟨_, rfl⟩
        rw [hxx] at hx
        have hxl := UInt8.toNat_lt xx
        have hyl := UInt8.toNat_lt y
        have hykl := UInt8.toNat_lt yk
        clear hyk hxx
        go_wp2_with (first | rw [HW7.out] | rw [HW8.out] | (at_builtin; refine append_int rfl (.tmp 77) (.tmp 79) rfl w2.heap.size _ z.length z rfl HO8.out _ (p : Int) rfl HC8.out (by omega) HB8.out.size ?_))
        intro v' w9 hv hgr
        have hu9 := buf_grown HU8.out HO8.out hgr
        have hcw := hu9.cell p (by rw [HWL.out]; exact HPL.out)
        have hfw := hu9.frozen p
        have HST := Lib.hid (hu9.store p xx)
        have HG9 := Lib.hid (HG8.out.grown HO8.out hgr)
        have HO9 : Hid (w9.ownsRow w2.heap.size 3 1 v' (z ++ [(p : Int)]).length (intsV (z ++ [(p : Int)]))) := Lib.hid (by simpa using hv)
        have HU9 := Lib.hid hu9
        have HB9 := Lib.hid (own_belowI HB8.out HO8.out hgr)
        clear hv hgr hu9 hcg hfg
        go_wp2_with fail
        obtain ⟨cu, hcu⟩ := HU9.out.cells
        have HOa := Lib.hid (own_only HO9.out HST.out.2 hcu (by decide))
        have HGa := Lib.hid (HG9.out.only HST.out.2 (fun e => HNG.out e.symm))
        have HUa := Lib.hid HST.out.1
        have HBa := Lib.hid (HB9.out.trans (Only.below HST.out.2 HGB.out HB9.out.size))
        clear hcu hcw hfw
        go_roundw
        case rel => exact ⟨k + 1, by omega, by go_num, W.set p xx, z ++ [(p : Int)], by rw [List.length_set]; exact HWL.out, HOa.out, HGa.out, HUa.out, HBa.out, by simp; omega, List.nodup_append.2 ⟨HND.out, by simp, fun a ha b hb => by
            rw [List.mem_singleton] at hb
            rw [hb]
            exact fun e => HPZ.out (e ▸ ha)⟩, fun a ha => by
            rcases List.mem_append.1 ha with h | h
            · exact HZR.out a h
            · rw [List.mem_singleton] at h
              have := HPL.out
              omega, fun q hq hqz => by
            rw [List.mem_append, List.mem_singleton] at hqz
            rw [co_set, if_neg (fun h => hqz (.inr (by omega)))]
            exact HEQ.out q hq (fun h => hqz (.inl h))⟩
        case measure => simp [intOf]; omega
    · obtain rfl : k = zs.length := by omega
      obtain ⟨oL, cL, rfl, hrL⟩ := owns_ints hown rfl
      have hok := eok_of (n := N) (by omega) hnd hzr
      have hch := chg_gone HVC.out HVN.out hWl hN1 hok heq
      have HON := Lib.hid (only_any W z N cap cL (some ⟨g, 0, none⟩) oL wr (fun _ => ⟨0, 0, none⟩) hbu.row hrL hWl hN2 hN1 hok (fun h => absurd hch (h V)))
      have HCH := Lib.hid hch
      have hz32 : z.length ≤ 32 := by omega
      have hcl := hrL.le
      have hcl2 := hrL.cap
      simp only [intsV_length] at hcl
      unfold maxLen at hcl2
      have HSP := spare_any (z.length : Int) 0
      have hspr : spr (z.length : Int) 0 = 32 - (z.length : Int) := by
        unfold spr bnd
        omega
      rw [hspr] at HSP
      have HSP := Lib.hid HSP
      have hws : IntKind.i64.wrap (32 - (z.length : Int)) = 32 - (z.length : Int) := by rw [IntKind.wrap_i64]; omega
      clear hbg hbu hb hnd hzr heq hWl hown hrL hok hch hspr hlt
      go_wp2_with fail
      refine HON.out.mono ?_; rintro e w7 ⟨hb7, ⟨hno, _⟩ | ⟨v, x1, hc1, rfl, hr1⟩⟩
      · exact absurd rfl (hno V [] HCH.out)
      have hu := hc1.uniq HCH.out
      subst hu
      obtain ⟨o1, c1, rfl, hr1⟩ := hr1
      have k1 := conv_rv (⟨o1, c1, rfl, hr1⟩ : RowV v (.slice o1 v.length c1) w7)
      have k2 := conv_rv (⟨some ⟨gv, 0, none⟩, capv, rfl, HVR.out.later (Kit.step HB.out hb7)⟩ : RowV v (.slice (some ⟨gv, 0, none⟩) v.length capv) w7)
      rw [HVN.out] at k1 k2 ⊢
      have HB7 := Lib.hid (Kit.step (Kit.step HB2.out HB.out) hb7)
      clear hb7 hc1 hr1 HON
      go_wp2_with fail
      refine (HSP.out _).mono ?_; rintro e w8 ⟨rfl, rfl⟩
      go_wp2_with fail
      go_ret
      exact ⟨rfl, HB7.out⟩
theorem er1_walk (d : List UInt8) (zs : List Int) (y : UInt8) (o oz : Option Addr) (c cz : Nat) (w : World) (A : Nat → Addr) (hE : Er.Six w A) (hP : RowIs w o (bytesV d) c) (hZ : RowIs w oz (intsV zs) cz) (hz : ∀ p ∈ zs, (Lit.int .i64 p).wf = true) :
    Calls Tryd.prog 6 #[.slice o d.length c, .slice oz zs.length cz, .int .u8 (y.toNat : Int)] w fun e w' => e = .returned (.bool true) ∧ Below w.heap.size w w' := by
  have h1 := hP.le
  have h2 := hP.cap
  have h3 := hZ.le
  have h4 := hZ.cap
  simp only [bytesV_length, intsV_length] at h1 h3
  unfold maxLen at h2 h4
  have hz2 : ∀ k, k < zs.length → -9223372036854775808 ≤ ci zs k ∧ ci zs k ≤ 9223372036854775807 := fun k hk => by
    have h1 : ci zs k ∈ zs := by
      unfold ci
      rw [List.getD_eq_getElem?_getD, List.getElem?_eq_getElem hk]
      exact List.getElem_mem hk
    exact i64_wf (hz _ h1)
  by_cases h : 223 < d.length ∨ 32 < zs.length
  · exact er1_long _ _ _ o oz c cz w h (by omega) (by omega)
  · by_cases h0 : d.length = 0
    · rw [h0]
      exact er1_zero _ _ o oz c cz w A hE (by omega)
    · exact er1_main d zs y o oz c cz w hP hZ (by omega) (by omega) (by omega) hz2
end Go.Proofs.YtgchfijeiggimaaDoor
