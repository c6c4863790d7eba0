/- The walk of RepairBack. -/
import Derived.Test.YtgchfijeiggimaaDoorRe1
import Derived.BigRegion
namespace Go.Proofs.YtgchfijeiggimaaDoor
open Go.RowKit
set_option linter.unusedVariables false
set_option linter.unusedSimpArgs false
/-- behind k erased places -/
def Bk1At (V : List UInt8) (M N gg g cap base : Nat) (w0 : World) (pv iv : Value) (wr : World) : Prop :=
  ∃ k : Nat, k ≤ M ∧ iv = .int .i64 k ∧ ∃ (W : List UInt8) (z : List Int), W.length = N ∧ wr.ownsRow base 3 1 pv z.length (intsV z) ∧ BRow wr gg N (fun p => decide ((p : Int) ∈ z)) ∧ Buf wr g cap W ∧ Below w0.heap.size w0 wr ∧
    z.length ≤ k ∧ z.Nodup ∧ (∀ q ∈ z, 0 ≤ q ∧ q < N) ∧ ∀ p, p < N → (p : Int) ∉ z → co W p = co V p
/-- behind k changed ones -/
def Bk2At (V : List UInt8) (z : List Int) (op : Option Addr) (cp M N gg g cap base : Nat) (w0 : World) (tv iv : Value) (wr : World) : Prop :=
  ∃ k : Nat, k ≤ M ∧ iv = .int .i64 k ∧ ∃ (W : List UInt8) (H : List Nat), tv = .int .i64 H.length ∧ W.length = N ∧ wr.ownsRow base 3 1 (.slice op z.length cp) z.length (intsV z) ∧ BRow wr gg N (fun p => decide ((p : Int) ∈ z ∨ p ∈ H)) ∧ Buf wr g cap W ∧ Below w0.heap.size w0 wr ∧
    H.length ≤ k ∧ H.Nodup ∧ (∀ p ∈ H, p < N ∧ (p : Int) ∉ z ∧ co W p ≠ co V p) ∧ ∀ p, p < N → (p : Int) ∉ z → p ∉ H → co W p = co V p
theorem bk2_step {V W : List UInt8} {z : List Int} {H : List Nat} {N p : Nat} {b : UInt8} (hl : W.length = N) (h1 : ∀ q ∈ H, q < N ∧ (q : Int) ∉ z ∧ co W q ≠ co V q) (h2 : ∀ q, q < N → (q : Int) ∉ z → q ∉ H → co W q = co V q) (hp : p < N) (hz : (p : Int) ∉ z) (hn : p ∉ H) (hb : b ≠ 0) :
    (∀ q ∈ p :: H, q < N ∧ (q : Int) ∉ z ∧ co (W.set p (co W p ^^^ b)) q ≠ co V q) ∧ ∀ q, q < N → (q : Int) ∉ z → q ∉ p :: H → co (W.set p (co W p ^^^ b)) q = co V q := by
  have e := h2 p hp hz hn
  refine ⟨fun q hq => ?_, fun q hq hqz hqn => ?_⟩
  · rcases List.mem_cons.1 hq with h | h
    · subst h
      refine ⟨hp, hz, ?_⟩
      rw [co_set, if_pos ⟨rfl, by omega⟩, e]
      intro h
      have := congrArg (fun x => co V q ^^^ x) h
      simp only [← UInt8.xor_assoc, UInt8.xor_self, UInt8.zero_xor] at this
      exact hb this
    · obtain ⟨h3, h4, h5⟩ := h1 q h
      refine ⟨h3, h4, ?_⟩
      rw [co_set, if_neg (fun h6 => hn (by rw [h6.1]; exact h))]
      exact h5
  · rw [co_set, if_neg (fun h => hqn (by rw [h.1]; simp))]
    exact h2 q hq hqz (fun h => hqn (by simp [h]))
set_option maxRecDepth 100000 in
set_option maxHeartbeats 4000000 in
theorem bk_long (m k l : Nat) (o oe oz : Option Addr) (c ce cz : Nat) (w : World) (h : 223 < m ∨ 32 < k ∨ 32 < 2 * l + k) (hm : m ≤ 9223372036854775807) (hk : k ≤ 9223372036854775807) (hl : l ≤ 140737488355328) :
    Calls Tryd.prog 3 #[.slice o m c, .slice oe k ce, .slice oz l cz] w fun e w' => e = .returned (.bool true) ∧ Below w.heap.size w w' := by
  by_cases h1 : 223 < m
  · have hd1 : decide ((223 : Int) < (m : Int)) = true := decide_eq_true (by omega)
    clear h h1
    go_enter Tryd.func3, Tryd.ntmps3
    go_wp2_with fail
    refine (alive5_any _).mono ?_; rintro e w1 ⟨rfl, hb⟩
    have HB := Lib.hid hb
    clear hb
    go_wp2_with fail
    go_ret
    exact ⟨rfl, HB.out⟩
  · have hd1 : decide ((223 : Int) < (m : Int)) = false := decide_eq_false (by omega)
    by_cases h2 : 32 < k
    · have hd2 : decide ((32 : Int) < (k : Int)) = true := decide_eq_true (by omega)
      clear h h1 h2
      go_enter Tryd.func3, Tryd.ntmps3
      go_wp2_with fail
      refine (alive5_any _).mono ?_; rintro e w1 ⟨rfl, hb⟩
      have HB := Lib.hid hb
      clear hb
      go_wp2_with fail
      go_ret
      exact ⟨rfl, HB.out⟩
    · have hd2 : decide ((32 : Int) < (k : Int)) = false := decide_eq_false (by omega)
      have hw2 : IntKind.i64.wrap (2 * (l : Int)) = 2 * (l : Int) := by rw [IntKind.wrap_i64]; omega
      have hw3 : IntKind.i64.wrap (2 * (l : Int) + (k : Int)) = 2 * (l : Int) + (k : Int) := by rw [IntKind.wrap_i64]; omega
      have hd3 : decide ((32 : Int) < 2 * (l : Int) + (k : Int)) = true := decide_eq_true (by omega)
      clear h h1 h2
      go_enter Tryd.func3, Tryd.ntmps3
      go_wp2_with fail
      refine (alive5_any _).mono ?_; rintro e w1 ⟨rfl, hb⟩
      have HB := Lib.hid hb
      clear hb
      go_wp2_with fail
      go_ret
      exact ⟨rfl, HB.out⟩
set_option maxRecDepth 100000 in
set_option maxHeartbeats 4000000 in
theorem bk_zero (k l : Nat) (o oe oz : Option Addr) (c ce cz : Nat) (w : World) (A : Nat → Addr) (hE : Er.Six w A) (hk : 2 * l + k ≤ 32) :
    Calls Tryd.prog 3 #[.slice o 0 c, .slice oe k ce, .slice oz l cz] w fun e w' => e = .returned (.bool true) ∧ Below w.heap.size w w' := by
  have hd2 : decide ((32 : Int) < (k : Int)) = false := decide_eq_false (by omega)
  have hw2 : IntKind.i64.wrap (2 * (l : Int)) = 2 * (l : Int) := by rw [IntKind.wrap_i64]; omega
  have hw3 : IntKind.i64.wrap (2 * (l : Int) + (k : Int)) = 2 * (l : Int) + (k : Int) := by rw [IntKind.wrap_i64]; omega
  have hd3 : decide ((32 : Int) < 2 * (l : Int) + (k : Int)) = false := decide_eq_false (by omega)
  have HE := Lib.hid hE
  clear hE
  go_enter Tryd.func3, Tryd.ntmps3
  go_wp2_with fail
  refine (alive5_any _).mono ?_; rintro e w1 ⟨rfl, hb⟩
  have HB := Lib.hid hb
  have HEN := Lib.hid (encode_size 0 c o w1 _ (HE.out.later hb).c7 (.inl (by omega)) (by omega))
  clear hb
  go_wp2_with fail
  refine HEN.out.mono ?_; rintro e w2 ⟨rfl, hb⟩
  have HB2 := Lib.hid (Kit.step HB.out hb)
  clear hb HEN
  go_wp2_with fail
  go_ret
  exact ⟨rfl, HB2.out⟩
set_option maxRecDepth 100000 in
set_option maxHeartbeats 8000000 in
theorem bk_main (d : List UInt8) (es zs : List (Int × UInt8)) (o oe oz : Option Addr) (c ce cz : Nat) (w : World) (hP : RowIs w o (bytesV d) c) (hE : PairsIs w oe es ce) (hZ : PairsIs w oz zs cz) (hl1 : 1 ≤ d.length) (hl2 : d.length ≤ 223) (hl3 : 2 * zs.length + es.length ≤ 32) :
    Calls Tryd.prog 3 #[.slice o d.length c, .slice oe es.length ce, .slice oz zs.length cz] w fun e w' => e = .returned (.bool true) ∧ Below w.heap.size w w' := by
  have h1 := hP.le
  have h2 := hP.cap
  have h3 := hZ.le
  have h4 := hZ.cap
  have h5 := hE.le
  have h6 := hE.cap
  simp only [bytesV_length] at h1
  unfold maxLen at h2 h4 h6
  have HP := Lib.hid hP
  have HZ := Lib.hid hZ
  have HE := Lib.hid hE
  have hd1 : decide ((223 : Int) < (d.length : Int)) = false := decide_eq_false (by omega)
  have hd2 : decide ((32 : Int) < (es.length : Int)) = false := decide_eq_false (by omega)
  have hw2 : IntKind.i64.wrap (2 * (zs.length : Int)) = 2 * (zs.length : Int) := by rw [IntKind.wrap_i64]; omega
  have hw3 : IntKind.i64.wrap (2 * (zs.length : Int) + (es.length : Int)) = 2 * (zs.length : Int) + (es.length : Int) := by rw [IntKind.wrap_i64]; omega
  have hd3 : decide ((32 : Int) < 2 * (zs.length : Int) + (es.length : Int)) = false := decide_eq_false (by omega)
  clear hP hZ hE
  go_enter Tryd.func3, Tryd.ntmps3
  go_wp2_with fail
  refine (alive5_any _).mono ?_; rintro e w1 ⟨rfl, hb⟩
  have HB1 := Lib.hid hb
  clear hb
  go_wp2_with fail
  refine (encode_own d o c w1 (HP.out.later HB1.out) hl1 hl2).mono ?_; rintro e w2 ⟨r, gv, capv, hr, hc, rfl, hg, hbu, hb⟩
  obtain ⟨V, hV⟩ : ∃ V, d ++ r = V := ⟨_, rfl⟩
  have hVl : V.length = d.length + 32 := by rw [← hV, List.length_append, hr]
  rw [hV] at hc hbu ⊢
  obtain ⟨N, hN⟩ : ∃ N, V.length = N := ⟨_, rfl⟩
  rw [hN] at hVl ⊢
  have HVC := Lib.hid hc
  have HVN := Lib.hid hN
  have HB2 := Lib.hid (Kit.step HB1.out hb)
  have HVR := Lib.hid hbu.row
  have hcv := hbu.le
  rw [hN] at hcv
  have hcv1 := hcv.1
  have hcv2 := hcv.2
  unfold maxLen at hcv2
  have hN1 : N ≤ 255 := by omega
  have hN2 : 33 ≤ N := by omega
  have hwN : IntKind.i64.wrap ((d.length : Int) + 32) = (N : Int) := by rw [IntKind.wrap_i64]; omega
  have hNi : (d.length : Int) + 32 = (N : Int) := by omega
  have hmk := make_bools4 N (by omega)
  obtain ⟨w3, hw3⟩ : ∃ w3, w2.alloc (.cells #[] 5) = w3 := ⟨_, rfl⟩
  have hb3 : Below w2.heap.size w2 w3 := by rw [← hw3]; exact (Below.refl _ _).alloc (Nat.le_refl _) _
  have HO3 : Hid (w3.ownsRow w2.heap.size 5 1 (.slice (some ⟨w2.heap.size, 0, none⟩) 0 0) 0 (bytesV [])) := Lib.hid (by rw [← hw3]; exact World.ownsRow_lit w2 #[] 0 (Nat.le_refl _) (Nat.zero_le _) rfl)
  have HV3 := Lib.hid (hbu.row.later hb3)
  have HB3 := Lib.hid hb3
  have HW3 := Lib.hid hw3
  clear hr hc hV hN hg hbu hb hVl hw3 hb3 hcv
  go_wp2_with (first | rw [HW3.out] | (at_builtin; refine append_row rfl (.tmp 57) (.tmp 58) rfl w2.heap.size _ 0 [] rfl HO3.out (some ⟨gv, 0, none⟩) N capv V rfl HVN.out.symm HV3.out (by omega) HB3.out.size ?_))
  intro v4 w4 hv4 hg4
  obtain ⟨g, cap, rfl, hgb, hbu⟩ := own_buf hv4 (by omega) HVN.out.symm
  have HB4 := Lib.hid (own_below (n := 0) HB3.out HO3.out hg4)
  have HBU4 := Lib.hid hbu
  have HGB := Lib.hid hgb
  rw [HVN.out]
  have hca := hbu.le
  rw [HVN.out] at hca
  have hca1 := hca.1
  have hca2 := hca.2
  unfold maxLen at hca2
  clear hv4 hg4 hbu hgb hca
  obtain ⟨w5, hw5⟩ : ∃ w5, w4.alloc (.cells (Array.replicate N (.bool false)) 4) = w5 := ⟨_, rfl⟩
  have hb5 : Below w4.heap.size w4 w5 := by rw [← hw5]; exact (Below.refl _ _).alloc (Nat.le_refl _) _
  have hbr5 : BRow w5 w4.heap.size N (fun _ => false) := by rw [← hw5]; exact brow_new w4 N
  obtain ⟨gg, hgg⟩ : ∃ gg, w4.heap.size = gg := ⟨_, rfl⟩
  have hgl := HBU4.out.lt
  rw [hgg] at hbr5 hgl
  have HNG : Hid (g ≠ gg) := Lib.hid (by omega)
  have HLG : Hid (w2.heap.size ≤ gg) := Lib.hid (by have := HB4.out.size; omega)
  have HBU5 := Lib.hid (HBU4.out.later hb5)
  have HB5 := Lib.hid (Kit.step HB4.out hb5)
  obtain ⟨w6, hw6⟩ : ∃ w6, w5.alloc (.cells #[] 3) = w6 := ⟨_, rfl⟩
  have hb6 : Below w5.heap.size w5 w6 := by rw [← hw6]; exact (Below.refl _ _).alloc (Nat.le_refl _) _
  have HO6 : Hid (w6.ownsRow w2.heap.size 3 1 (.slice (some ⟨w5.heap.size, 0, none⟩) 0 0) 0 (intsV [])) := Lib.hid (by rw [← hw6]; exact World.ownsRow_lit w5 #[] 0 HB5.out.size (Nat.zero_le _) rfl)
  have HG6 : Hid (BRow w6 gg N (fun p => decide ((p : Int) ∈ ([] : List Int)))) := Lib.hid ((hbr5.later hb6).cong fun i _ => by simp)
  have HBU6 := Lib.hid (HBU5.out.later hb6)
  have HB6 := Lib.hid (Kit.step HB5.out hb6)
  have HW5 := Lib.hid hw5
  have HW6 := Lib.hid hw6
  have HGG := Lib.hid hgg
  clear hb5 hbr5 hgl hw5 hb6 hw6 hgg
  go_wp2_with (first | rw [HW5.out] | rw [HW6.out])
  rw [HGG.out]
  go_loopw [12, 14, 15, 65] (fun pv _ _ iv wr => Bk1At V es.length N gg g cap w2.heap.size w2 pv iv wr) (fun _ _ _ iv _ => es.length - (intOf iv).toNat)
  case atStart => exact ⟨0, Nat.zero_le _, rfl, V, [], HVN.out, HO6.out, HG6.out, HBU6.out, HB6.out, Nat.le_refl _, List.nodup_nil, fun q hq => (by cases hq), fun p _ _ => rfl⟩
  case round =>
    clear HO6 HG6 HBU6 HB6 HW6 HO3 HB4 HBU4 HB5 HBU5 HW5 HV3
    obtain ⟨k, hk, rfl, W, z, hWl, hown, hbg, hbu, hb, hzk, hnd, hzr, heq⟩ := hrel
    by_cases hlt : k < es.length
    · obtain ⟨b, off, rfl, hblt, hcells⟩ := (HE.out.later (Kit.step HB2.out hb)).cells (by omega)
      obtain ⟨hcq, hcb⟩ := hcells k hlt
      have hcb2 : wr.cell? ⟨b, off + k * 2 + 1, none⟩ = _ := hcb
      have hqw := HE.out.wf k
      obtain ⟨q, hq⟩ : ∃ q, (es.getD k (0, 0)).1 = q := ⟨_, rfl⟩
      obtain ⟨y, hy⟩ : ∃ y, (es.getD k (0, 0)).2 = y := ⟨_, rfl⟩
      rw [hq] at hcq hqw
      rw [hy] at hcb hcb2
      obtain ⟨u, hu⟩ : ∃ u, (q % 18446744073709551616).toNat = u := ⟨_, rfl⟩
      have hwu : IntKind.u64.wrap q = (u : Int) := by rw [wrap_u644, hu]
      have hwn : IntKind.u64.wrap (N : Int) = (N : Int) := by rw [wrap_u644]; omega
      obtain ⟨p, hp⟩ : ∃ p, u % N = p := ⟨_, rfl⟩
      have hpl : p < N := by rw [← hp]; exact Nat.mod_lt _ (by omega)
      have htm : Int.tmod (u : Int) (N : Int) = (p : Int) := by rw [← hp]; rfl
      have hwp : IntKind.u64.wrap (p : Int) = (p : Int) := by rw [wrap_u644]; omega
      have hwp2 : IntKind.i64.wrap (p : Int) = (p : Int) := by rw [IntKind.wrap_i64]; omega
      have hyl := UInt8.toNat_lt y
      have hk0 : (0 : Int) ≤ (k : Int) := by omega
      have hk1 : (k : Int) < (es.length : Int) := by omega
      have hN0 : ((N : Int) == 0) = false := beq_false_of_ne (by omega)
      have hN00 : ¬ (N : Int) = 0 := by omega
      have hp0 : (0 : Int) ≤ (p : Int) := by omega
      have hp1 : (p : Int) < (N : Int) := by omega
      obtain ⟨w5, hw5⟩ : ∃ w5, wr.alloc (.cells #[.int .i64 q, .int .u8 (y.toNat : Int)] 32) = w5 := ⟨_, rfl⟩
      have hb5 : Below wr.heap.size wr w5 := by rw [← hw5]; exact (Below.refl _ _).alloc (Nat.le_refl _) _
      have hQ5 : w5.heap[wr.heap.size]? = some (.cells #[.int .i64 q, .int .u8 (y.toNat : Int)] 32 (0, 0)) := by rw [← hw5]; exact World.alloc_heap_new _ _
      have hg5 := hbg.later hb5
      have hu5 := hbu.later hb5
      have HQ5 := Lib.hid hQ5
      have HG5 := Lib.hid hg5
      have HU5 := Lib.hid hu5
      have HB5 := Lib.hid (Kit.step hb hb5)
      have HWL := Lib.hid hWl
      have HPL := Lib.hid hpl
      have hpl' := hpl
      have HW5 := Lib.hid hw5
      have HQR : Hid (wr.heap.size < w5.heap.size) := Lib.hid (Array.getElem?_eq_some_iff.1 hQ5).1
      have hcg := hg5.cell p hpl'
      have hcg' := hbg.cell p hpl'
      have hfg := hg5.frozen p
      have hfg' := hbg.frozen p
      have HO5 := Lib.hid (own_laterI hown hb5)
      have HND := Lib.hid hnd
      have HEQ := Lib.hid heq
      rw [← hw5] at hcg hfg
      have HZR := Lib.hid hzr
      clear hcells hbg hbu hb hnd hzr heq hWl hq hy hu hp hg5 hu5 hb5 hQ5 hw5 hown hpl
      by_cases hpz : (p : Int) ∈ z
      · rw [decide_eq_true hpz] at hcg hcg'
        clear hpz
        go_wp2_with fail
        rw [HW5.out]
        go_roundw
        case rel => exact ⟨k + 1, by omega, by go_num, W, z, HWL.out, HO5.out, HG5.out, HU5.out, HB5.out, by omega, HND.out, HZR.out, HEQ.out⟩
        case measure => simp [intOf]; omega
      · rw [decide_eq_false hpz] at hcg hcg'
        have HPZ := Lib.hid hpz
        obtain ⟨w6, hw6⟩ : ∃ w6, w5.setCell ⟨gg, p, none⟩ (.bool true) = w6 := ⟨_, rfl⟩
        have hst := HG5.out.store p true
        rw [hw6] at hst
        have hg6 : BRow w6 gg N (fun q => decide ((q : Int) ∈ z ++ [(p : Int)])) := hst.1.cong fun i _ => by
          by_cases e : i = p
          · simp [e]
          · have e2 : ¬ (i : Int) = (p : Int) := by omega
            simp [e, e2]
        have hu6 : Buf w6 g cap W := buf_same4 HU5.out (World.grownBy.block hst.2 g HU5.out.lt (fun e => HNG.out (by cases e; rfl)))
        have ho6 := own_only HO5.out hst.2 (show w5.heap[gg]? = some (.cells _ _ _) from HG5.out) (by decide)
        have hq6 : w6.heap[wr.heap.size]? = some (.cells #[.int .i64 q, .int .u8 (y.toNat : Int)] 32 (0, 0)) := by
          rw [World.grownBy.block hst.2 wr.heap.size HQR.out (fun e => by
            have h1 := HQ5.out
            have h2 : w5.heap[gg]? = _ := HG5.out
            cases e
            rw [h1] at h2
            injection h2 with h2
            injection h2 with _ h2 _
            exact absurd h2 (by decide))]
          exact HQ5.out
        have hb6 : Below w2.heap.size w2 w6 := HB5.out.trans (Only.below hst.2 HLG.out HB5.out.size)
        obtain ⟨w7, hw7⟩ : ∃ w7, w6.alloc (.cells #[.int .i64 (p : Int)] 3) = w7 := ⟨_, rfl⟩
        have hb7 : Below w6.heap.size w6 w7 := by rw [← hw7]; exact (Below.refl _ _).alloc (Nat.le_refl _) _
        have HO7 := Lib.hid (own_laterI ho6 hb7)
        have HC7 : Hid (w7.cell? ⟨w6.heap.size, 0, none⟩ = some (.int .i64 (p : Int))) := Lib.hid (by rw [← hw7, cell_of_row _ _ 0 _ _ _ (World.alloc_heap_new w6 _)]; rfl)
        have HB7 := Lib.hid (Kit.step hb6 hb7)
        have HG7 := Lib.hid (hg6.later hb7)
        have HU7 := Lib.hid (hu6.later hb7)
        have HQ7 : Hid (w7.heap[wr.heap.size]? = some (.cells #[.int .i64 q, .int .u8 (y.toNat : Int)] 32 (0, 0))) := Lib.hid (by rw [hb7.block _ (Array.getElem?_eq_some_iff.1 hq6).1]; exact hq6)
        have HW6 := Lib.hid hw6
        have HW7 := Lib.hid hw7
        clear hpz hst hw6 hg6 hu6 ho6 hq6 hb6 hw7 hb7
        go_wp2_with (first | rw [HW5.out, HW6.out] | rw [HW6.out] | rw [HW7.out] | (at_builtin; refine append_int rfl (.tmp 84) (.tmp 86) rfl w2.heap.size _ z.length z rfl HO7.out _ (p : Int) rfl HC7.out (by omega) HB7.out.size ?_))
        intro v' w8 hv hgr
        have hu8 := buf_grown HU7.out HO7.out hgr
        have hq8 := heap_grown HQ7.out (by decide) HO7.out hgr
        have hcy : w8.cell? ⟨wr.heap.size, 1, none⟩ = some (.int .u8 (y.toNat : Int)) := by rw [cell_of_row _ _ 1 _ _ _ hq8]; rfl
        have hcw := hu8.cell p (by rw [HWL.out]; exact hpl')
        have hfw := hu8.frozen p
        have HST := Lib.hid (hu8.store p (co W p ^^^ y))
        have HG8 := Lib.hid (HG7.out.grown HO7.out hgr)
        have HO8 : Hid (w8.ownsRow w2.heap.size 3 1 v' (z ++ [(p : Int)]).length (intsV (z ++ [(p : Int)]))) := Lib.hid (by simpa using hv)
        have HU8 := Lib.hid hu8
        have HB8 := Lib.hid (own_belowI HB7.out HO7.out hgr)
        have hx := u8c (co W p) y
        obtain ⟨xx, hxx⟩ : ∃ xx, co W p ^^^ y = xx := ⟨_, rfl⟩
        obtain ⟨x, hxe⟩ : ∃ x, co W p = x := ⟨_, rfl⟩
        rw [hxx] at hx HST
        rw [hxe] at hx hcw
        have hxl := UInt8.toNat_lt x
        have hxxl := UInt8.toNat_lt xx
        clear hv hgr hu8 hq8 hcg hcg' hfg hfg' hxx hxe
        go_wp2_with fail
        go_region
        obtain ⟨w9, hw9⟩ : ∃ w9, (w8.setCell ⟨g, p, none⟩ (.int .u8 (xx.toNat : Int))).drew = w9 := ⟨_, rfl⟩
        have hb9 : Below (w8.setCell ⟨g, p, none⟩ (.int .u8 (xx.toNat : Int))).heap.size (w8.setCell ⟨g, p, none⟩ (.int .u8 (xx.toNat : Int))) w9 := by rw [← hw9]; exact Kit.dn' _ 1
        obtain ⟨cu, hcu⟩ := HU8.out.cells
        have HO9 := Lib.hid (own_laterI (own_only HO8.out HST.out.2 hcu (by decide)) hb9)
        have HG9 := Lib.hid ((HG8.out.only HST.out.2 (fun e => HNG.out e.symm)).later hb9)
        have HU9 := Lib.hid (HST.out.1.later hb9)
        have HB9 := Lib.hid (Kit.step (HB8.out.trans (Only.below HST.out.2 HGB.out HB8.out.size)) hb9)
        rw [hw9]
        clear hw9 hb9 hcu hcw hfw hcy
        go_wp2_with fail
        go_roundw
        case rel => exact ⟨k + 1, by omega, by go_num, W.set p xx, z ++ [(p : Int)], by rw [List.length_set]; exact HWL.out, HO9.out, HG9.out, HU9.out, HB9.out, by simp; omega, List.nodup_append.2 ⟨HND.out, by simp, fun a ha b hb => by
            rw [List.mem_singleton] at hb
            rw [hb]
            exact fun e => HPZ.out (e ▸ ha)⟩, fun a ha => by
            rcases List.mem_append.1 ha with h | h
            · exact HZR.out a h
            · rw [List.mem_singleton] at h
              rw [h]
              have := HPL.out
              omega, fun a ha hn => by
            rw [co_set, if_neg (fun h => hn (by rw [h.1]; simp))]
            exact HEQ.out a ha (fun h => hn (by simp [h]))⟩
        case measure => simp [intOf]; omega
    · obtain rfl : k = es.length := by omega
      obtain ⟨op, cp, rfl, hri⟩ := owns_ints hown rfl
      have HG0 : Hid (BRow wr gg N (fun p => decide ((p : Int) ∈ z ∨ p ∈ ([] : List Nat)))) := Lib.hid (hbg.cong fun i _ => by simp)
      have HU0 := Lib.hid hbu
      have HB0 := Lib.hid hb
      have HRI := Lib.hid hown
      have HND0 := Lib.hid hnd
      have HZR := Lib.hid hzr
      have HEQ0 := Lib.hid heq
      have HWL0 := Lib.hid hWl
      have HZK := Lib.hid hzk
      have hzl : z.length ≤ 32 := by omega
      clear hown hri hbg hbu hb hnd hzr heq hWl hzk hlt
      go_wp2_with fail
      go_loopw [16, 18, 19, 101] (fun tv _ _ iv wr2 => Bk2At V z op cp zs.length N gg g cap w2.heap.size w2 tv iv wr2) (fun _ _ _ iv _ => zs.length - (intOf iv).toNat)
      case atStart => exact ⟨0, Nat.zero_le _, rfl, W, [], rfl, HWL0.out, HRI.out, HG0.out, HU0.out, HB0.out, Nat.le_refl _, List.nodup_nil, fun p hp => (by cases hp), fun p hp hz _ => HEQ0.out p hp hz⟩
      case round =>
        rename World => W2
        rename List UInt8 => W0
        clear HG0 HU0 HB0 HRI HEQ0 HWL0
        obtain ⟨k, hk, rfl, W, H, rfl, hWl, hown, hbg, hbu, hb, hHk, hnd, hmem, heq⟩ := hrel
        by_cases hlt : k < zs.length
        · obtain ⟨b, off, rfl, hblt, hcells⟩ := (HZ.out.later (Kit.step HB2.out hb)).cells (by omega)
          obtain ⟨hcq, hcb⟩ := hcells k hlt
          have hcb2 : W2.cell? ⟨b, off + k * 2 + 1, none⟩ = _ := hcb
          have hqw := HZ.out.wf k
          obtain ⟨q, hq⟩ : ∃ q, (zs.getD k (0, 0)).1 = q := ⟨_, rfl⟩
          obtain ⟨y, hy⟩ : ∃ y, (zs.getD k (0, 0)).2 = y := ⟨_, rfl⟩
          rw [hq] at hcq hqw
          rw [hy] at hcb hcb2
          obtain ⟨u, hu⟩ : ∃ u, (q % 18446744073709551616).toNat = u := ⟨_, rfl⟩
          have hwu : IntKind.u64.wrap q = (u : Int) := by rw [wrap_u644, hu]
          have hwn : IntKind.u64.wrap (N : Int) = (N : Int) := by rw [wrap_u644]; omega
          obtain ⟨p, hp⟩ : ∃ p, u % N = p := ⟨_, rfl⟩
          have hpl : p < N := by rw [← hp]; exact Nat.mod_lt _ (by omega)
          have htm : Int.tmod (u : Int) (N : Int) = (p : Int) := by rw [← hp]; rfl
          have hwp : IntKind.u64.wrap (p : Int) = (p : Int) := by rw [wrap_u644]; omega
          have hwp2 : IntKind.i64.wrap (p : Int) = (p : Int) := by rw [IntKind.wrap_i64]; omega
          have hyl := UInt8.toNat_lt y
          have hk0 : (0 : Int) ≤ (k : Int) := by omega
          have hk1 : (k : Int) < (zs.length : Int) := by omega
          have hN0 : ((N : Int) == 0) = false := beq_false_of_ne (by omega)
          have hN00 : ¬ (N : Int) = 0 := by omega
          have hp0 : (0 : Int) ≤ (p : Int) := by omega
          have hp1 : (p : Int) < (N : Int) := by omega
          obtain ⟨w5, hw5⟩ : ∃ w5, W2.alloc (.cells #[.int .i64 q, .int .u8 (y.toNat : Int)] 32) = w5 := ⟨_, rfl⟩
          have hb5 : Below W2.heap.size W2 w5 := by rw [← hw5]; exact (Below.refl _ _).alloc (Nat.le_refl _) _
          have hQ5 : w5.heap[W2.heap.size]? = some (.cells #[.int .i64 q, .int .u8 (y.toNat : Int)] 32 (0, 0)) := by rw [← hw5]; exact World.alloc_heap_new _ _
          have hg5 := hbg.later hb5
          have hu5 := hbu.later hb5
          have HQ5 := Lib.hid hQ5
          have HG5 := Lib.hid hg5
          have HU5 := Lib.hid hu5
          have HB5 := Lib.hid (Kit.step hb hb5)
          have HWL := Lib.hid hWl
          have HPL := Lib.hid hpl
          have hpl' := hpl
          have HW5 := Lib.hid hw5
          have HQR : Hid (W2.heap.size < w5.heap.size) := Lib.hid (Array.getElem?_eq_some_iff.1 hQ5).1
          have hcg := hg5.cell p hpl'
          have hcg' := hbg.cell p hpl'
          have hfg := hg5.frozen p
          have hfg' := hbg.frozen p
          have HO5 := Lib.hid (own_laterI hown hb5)
          have HND := Lib.hid hnd
          have HEQ := Lib.hid heq
          rw [← hw5] at hcg hfg
          have HMEM := Lib.hid hmem
          have hwt : IntKind.i64.wrap ((H.length : Int) + 1) = (H.length : Int) + 1 := by rw [IntKind.wrap_i64]; omega
          clear hcells hbg hbu hb hnd hmem heq hWl hq hy hu hp hg5 hu5 hb5 hQ5 hw5 hown hpl
          by_cases hpz : (p : Int) ∈ z ∨ p ∈ H
          · rw [decide_eq_true hpz] at hcg hcg'
            clear hpz
            go_wp2_with fail
            rw [HW5.out]
            go_roundw
            case rel => exact ⟨k + 1, by omega, by go_num, W, H, rfl, HWL.out, HO5.out, HG5.out, HU5.out, HB5.out, by omega, HND.out, HMEM.out, HEQ.out⟩
            case measure => simp [intOf]; omega
          · rw [decide_eq_false hpz] at hcg hcg'
            have HPZ : Hid ((p : Int) ∉ z) := Lib.hid fun h => hpz (.inl h)
            have HPH : Hid (p ∉ H) := Lib.hid fun h => hpz (.inr h)
            clear hpz
            by_cases hy0 : y = 0
            · have hyb : ((y.toNat : Int) != 0) = false := by rw [hy0]; rfl
              clear hy0
              go_wp2_with fail
              rw [HW5.out]
              go_roundw
              case rel => exact ⟨k + 1, by omega, by go_num, W, H, rfl, HWL.out, HO5.out, HG5.out, HU5.out, HB5.out, by omega, HND.out, HMEM.out, HEQ.out⟩
              case measure => simp [intOf]; omega
            · have hyn : ¬ (y.toNat : Int) = 0 := fun h => hy0 (UInt8.toNat_inj.1 (by simpa using h))
              have hyb : ((y.toNat : Int) != 0) = true := by rw [bne_iff_ne]; exact hyn
              have HSTP := Lib.hid (bk2_step HWL.out HMEM.out HEQ.out HPL.out HPZ.out HPH.out hy0)
              obtain ⟨w6, hw6⟩ : ∃ w6, w5.setCell ⟨gg, p, none⟩ (.bool true) = w6 := ⟨_, rfl⟩
              have hst := HG5.out.store p true
              rw [hw6] at hst
              have hg6 : BRow w6 gg N (fun q => decide ((q : Int) ∈ z ∨ q ∈ p :: H)) := hst.1.cong fun i _ => by
                by_cases e : i = p
                · simp [e]
                · have e2 : ¬ (i : Int) = (p : Int) := by omega
                  simp [e, e2]
              have hu6 : Buf w6 g cap W := buf_same4 HU5.out (World.grownBy.block hst.2 g HU5.out.lt (fun e => HNG.out (by cases e; rfl)))
              have ho6 := own_only HO5.out hst.2 (show w5.heap[gg]? = some (.cells _ _ _) from HG5.out) (by decide)
              have hq6 : w6.heap[W2.heap.size]? = some (.cells #[.int .i64 q, .int .u8 (y.toNat : Int)] 32 (0, 0)) := by
                rw [World.grownBy.block hst.2 W2.heap.size HQR.out (fun e => by
                  have h1 := HQ5.out
                  have h2 : w5.heap[gg]? = _ := HG5.out
                  cases e
                  rw [h1] at h2
                  injection h2 with h2
                  injection h2 with _ h2 _
                  exact absurd h2 (by decide))]
                exact HQ5.out
              have hb6 : Below w2.heap.size w2 w6 := HB5.out.trans (Only.below hst.2 HLG.out HB5.out.size)
              have hcy : w6.cell? ⟨W2.heap.size, 1, none⟩ = some (.int .u8 (y.toNat : Int)) := by rw [cell_of_row _ _ 1 _ _ _ hq6]; rfl
              have hcw := hu6.cell p (by rw [HWL.out]; exact hpl')
              have hfw := hu6.frozen p
              have HST := Lib.hid (hu6.store p (co W p ^^^ y))
              have HG6 := Lib.hid hg6
              have HU6 := Lib.hid hu6
              have HO6 := Lib.hid ho6
              have HB6 := Lib.hid hb6
              have HW6 := Lib.hid hw6
              have hx := u8c (co W p) y
              obtain ⟨xx, hxx⟩ : ∃ xx, co W p ^^^ y = xx := ⟨_, rfl⟩
              obtain ⟨x, hxe⟩ : ∃ x, co W p = x := ⟨_, rfl⟩
              rw [hxx] at hx HST HSTP
              rw [hxe] at hx hcw
              have hxl := UInt8.toNat_lt x
              have hxxl := UInt8.toNat_lt xx
              clear hy0 hst hw6 hg6 hu6 ho6 hq6 hb6 hxx hxe
              go_wp2_with fail
              rw [HW5.out, HW6.out]
              clear hcg hcg' hfg hfg'
              go_region
              obtain ⟨w9, hw9⟩ : ∃ w9, (w6.setCell ⟨g, p, none⟩ (.int .u8 (xx.toNat : Int))).drew = w9 := ⟨_, rfl⟩
              have hb9 : Below (w6.setCell ⟨g, p, none⟩ (.int .u8 (xx.toNat : Int))).heap.size (w6.setCell ⟨g, p, none⟩ (.int .u8 (xx.toNat : Int))) w9 := by rw [← hw9]; exact Kit.dn' _ 1
              obtain ⟨cu, hcu⟩ := HU6.out.cells
              have HO9 := Lib.hid (own_laterI (own_only HO6.out HST.out.2 hcu (by decide)) hb9)
              have HG9 := Lib.hid ((HG6.out.only HST.out.2 (fun e => HNG.out e.symm)).later hb9)
              have HU9 := Lib.hid (HST.out.1.later hb9)
              have HB9 := Lib.hid (Kit.step (HB6.out.trans (Only.below HST.out.2 HGB.out HB6.out.size)) hb9)
              rw [hw9]
              clear hw9 hb9 hcu hcw hfw hcy
              go_wp2_with fail
              go_roundw
              case rel => exact ⟨k + 1, by omega, by go_num, W.set p xx, p :: H, by go_num, by rw [List.length_set]; exact HWL.out, HO9.out, HG9.out, HU9.out, HB9.out, by simp; omega, List.nodup_cons.2 ⟨HPH.out, HND.out⟩, HSTP.out.1, HSTP.out.2⟩
              case measure => simp [intOf]; omega
        · obtain rfl : k = zs.length := by omega
          have hok := eok_of (n := N) hzl HND0.out HZR.out
          have hch : Chg V W N z H := ⟨HVC.out, HVN.out, hWl, hN1, hok, hnd, fun p hp => ⟨(hmem p hp).1, (hmem p hp).2.2, (hmem p hp).2.1⟩, fun p hp h hz => by
            by_cases hh : p ∈ H
            · exact hh
            · exact absurd (heq p hp hz hh) h, by have := HZK.out; omega⟩
          obtain ⟨op', cp', e', hrL0⟩ := owns_ints hown rfl
          have hrL : RowIs W2 op (intsV z) cp := by
            injection e' with e1 _ e3
            rw [e1, e3]; exact hrL0
          have HFX := Lib.hid (cfix_any W z N cap cp (some ⟨g, 0, none⟩) op W2 (fun _ => ⟨0, 0, none⟩) hbu.row hrL hWl hN2 hN1 hok (fun h => absurd hch (h V H)) _ rfl _ rfl)
          have HCH := Lib.hid hch
          have hfew := hch.few
          obtain ⟨L, hL⟩ : ∃ L, H.length = L := ⟨_, rfl⟩
          have HLH := Lib.hid hL
          rw [hL] at hfew hHk ⊢
          have hcl := hrL.le
          have hcl2 := hrL.cap
          simp only [intsV_length] at hcl
          unfold maxLen at hcl2
          have HSP := spare_any (z.length : Int) (L : Int)
          have hspr : spr (z.length : Int) (L : Int) = 32 - (z.length : Int) - 2 * (L : Int) := by
            unfold spr bnd
            omega
          rw [hspr] at HSP
          have HSP := Lib.hid HSP
          have hws : IntKind.i64.wrap (32 - (z.length : Int)) = 32 - (z.length : Int) := by rw [IntKind.wrap_i64]; omega
          have hw5 : IntKind.i64.wrap (2 * (L : Int)) = 2 * (L : Int) := by rw [IntKind.wrap_i64]; omega
          have hw6 : IntKind.i64.wrap (32 - (z.length : Int) - 2 * (L : Int)) = 32 - (z.length : Int) - 2 * (L : Int) := by rw [IntKind.wrap_i64]; omega
          have HBW := Lib.hid hb
          clear hbg hbu hb hnd hmem heq hWl hown hrL hrL0 e' hok hch hspr hlt hL
          go_wp2_with fail
          refine HFX.out.mono ?_; rintro e w7 ⟨hb7, ⟨hno, _⟩ | ⟨v, H', x1, x2, hc1, rfl, hr1, hi1⟩⟩
          · exact absurd HCH.out (hno _ _)
          have hu := hc1.uniq HCH.out
          subst hu
          have hl := hc1.same HCH.out
          rw [HLH.out] at hl
          obtain ⟨o1, c1, rfl, hr1⟩ := hr1
          obtain ⟨o2, c2, rfl, hi1⟩ := hi1
          obtain ⟨d2, hd2'⟩ : ∃ d2, (dfL W v N).length = d2 := ⟨_, rfl⟩
          rw [HVN.out, hl, hd2']
          obtain ⟨w8, hw8⟩ : ∃ w8, w7.alloc (.cells #[.slice o1 N c1, .slice o2 d2 c2, .int .i64 (L : Int)] 35) = w8 := ⟨_, rfl⟩
          have hb8 : Below w7.heap.size w7 w8 := by rw [← hw8]; exact (Below.refl _ _).alloc (Nat.le_refl _) _
          have hg8 : w8.heap[w7.heap.size]? = some (.cells #[.slice o1 N c1, .slice o2 d2 c2, .int .i64 (L : Int)] 35 (0, 0)) := by rw [← hw8]; exact World.alloc_heap_new _ _
          obtain ⟨hcc0, _, hcc2, _⟩ := fx_cells hg8
          have k1 := conv_rv (⟨o1, c1, rfl, hr1.later hb8⟩ : RowV v (.slice o1 v.length c1) w8)
          have k2 := conv_rv (⟨some ⟨gv, 0, none⟩, capv, rfl, HVR.out.later (Kit.step (Kit.step HBW.out hb7) hb8)⟩ : RowV v (.slice (some ⟨gv, 0, none⟩) v.length capv) w8)
          rw [HVN.out] at k1 k2
          have HB8 := Lib.hid (Kit.step (Kit.step (Kit.step HB2.out HBW.out) hb7) hb8)
          have HW8 := Lib.hid hw8
          clear hb7 hc1 hr1 hi1 HFX hl hd2' hw8 hb8 hg8
          go_wp2_with (rw [HW8.out])
          refine (HSP.out _).mono ?_; rintro e w9 ⟨rfl, rfl⟩
          go_wp2_with fail
          go_ret
          exact ⟨rfl, HB8.out⟩
theorem bk_walk (d : List UInt8) (es zs : List (Int × UInt8)) (o oe oz : Option Addr) (c ce cz : Nat) (w : World) (A : Nat → Addr) (hE : Er.Six w A) (hP : RowIs w o (bytesV d) c) (hA : PairsIs w oe es ce) (hZ : PairsIs w oz zs cz) (hl : zs.length ≤ 140737488355328) :
    Calls Tryd.prog 3 #[.slice o d.length c, .slice oe es.length ce, .slice oz zs.length cz] w fun e w' => e = .returned (.bool true) ∧ Below w.heap.size w w' := by
  have h1 := hP.le
  have h2 := hP.cap
  have h3 := hA.le
  have h4 := hA.cap
  simp only [bytesV_length] at h1
  unfold maxLen at h2 h4
  by_cases h : 223 < d.length ∨ 32 < es.length ∨ 32 < 2 * zs.length + es.length
  · exact bk_long _ _ _ o oe oz c ce cz w h (by omega) (by omega) hl
  · by_cases h0 : d.length = 0
    · rw [h0]
      exact bk_zero _ _ o oe oz c ce cz w A hE (by omega)
    · exact bk_main d es zs o oe oz c ce cz w hP hA hZ (by omega) (by omega) (by omega)
end Go.Proofs.YtgchfijeiggimaaDoor
