/- The walk of LocatePlaces. -/
import Derived.Test.YtoefhhkemljjdaaDoorLph
import Derived.BigRegion
namespace Go.Proofs.YtoefhhkemljjdaaDoor
open Go.RowKit
set_option linter.unusedVariables false
set_option linter.unusedSimpArgs false
/-- behind k erased places -/
def Pl1At (V : List UInt8) (M N gg gh g cap : Nat) (w0 : World) (pv iv : Value) (wr : World) : Prop :=
  ∃ k : Nat, k ≤ M ∧ iv = .int .i64 k ∧ ∃ (W : List UInt8) (z : List Int), W.length = N ∧ wr.ownsRow w0.heap.size 3 1 pv z.length (intsV z) ∧ BRow wr gg N (fun p => decide ((p : Int) ∈ z)) ∧ BRow wr gh N (fun _ => false) ∧ Buf wr g cap W ∧ Below w0.heap.size w0 wr ∧
    z.length ≤ k ∧ z.Nodup ∧ (∀ q ∈ z, 0 ≤ q ∧ q < N) ∧ ∀ p, p < N → (p : Int) ∉ z → co W p = co V p
/-- behind k changed ones -/
def Pl2At (V : List UInt8) (z : List Int) (op : Option Addr) (cp M N gg gh g cap : Nat) (w0 : World) (iv : Value) (wr : World) : Prop :=
  ∃ k : Nat, k ≤ M ∧ iv = .int .i64 k ∧ ∃ (W : List UInt8) (H : List Nat), W.length = N ∧ wr.ownsRow w0.heap.size 3 1 (.slice op z.length cp) z.length (intsV z) ∧ BRow wr gg N (fun p => decide ((p : Int) ∈ z)) ∧ BRow wr gh N (fun p => decide (p ∈ H)) ∧ Buf wr g cap W ∧ Below w0.heap.size w0 wr ∧
    H.length ≤ k ∧ H.Nodup ∧ (∀ p ∈ H, p < N ∧ (p : Int) ∉ z ∧ co W p ≠ co V p) ∧ ∀ p, p < N → (p : Int) ∉ z → p ∉ H → co W p = co V p
theorem pl2_step {V W : List UInt8} {z : List Int} {H : List Nat} {N p : Nat} {b : UInt8} (hl : W.length = N) (h1 : ∀ q ∈ H, q < N ∧ (q : Int) ∉ z ∧ co W q ≠ co V q) (h2 : ∀ q, q < N → (q : Int) ∉ z → q ∉ H → co W q = co V q) (hp : p < N) (hz : (p : Int) ∉ z) (hn : p ∉ H) (hb : b ≠ 0) :
    (∀ q ∈ p :: H, q < N ∧ (q : Int) ∉ z ∧ co (W.set p (co W p ^^^ b)) q ≠ co V q) ∧ ∀ q, q < N → (q : Int) ∉ z → q ∉ p :: H → co (W.set p (co W p ^^^ b)) q = co V q := by
  have e := h2 p hp hz hn
  refine ⟨fun q hq => ?_, fun q hq hqz hqn => ?_⟩
  · rcases List.mem_cons.1 hq with h | h
    · subst h
      refine ⟨hp, hz, ?_⟩
      rw [co_set, if_pos ⟨rfl, by omega⟩, e]
      intro h
      have := congrArg (fun x => co V q ^^^ x) h
      simp only [← UInt8.xor_assoc, UInt8.xor_self, UInt8.zero_xor] at this
      exact hb this
    · obtain ⟨h3, h4, h5⟩ := h1 q h
      refine ⟨h3, h4, ?_⟩
      rw [co_set, if_neg (fun h6 => hn (by rw [h6.1]; exact h))]
      exact h5
  · rw [co_set, if_neg (fun h => hqn (by rw [h.1]; simp))]
    exact h2 q hq hqz (fun h => hqn (by simp [h]))
/-- the root so far -/
def Pl4At (x : UInt8) (M : List UInt8) (w0 : World) (rv yv : Value) (wr : World) : Prop :=
  ∃ k : Nat, k ≤ 255 ∧ yv = .int .i64 ((k + 1 : Nat) : Int) ∧ rv = .bool (rootB x M k) ∧ Below w0.heap.size w0 wr
def Pl3At (N : Nat) (w0 : World) (pv : Value) (wr : World) : Prop := ∃ p : Nat, p ≤ N ∧ pv = .int .i64 p ∧ Below w0.heap.size w0 wr
set_option maxRecDepth 100000 in
set_option maxHeartbeats 8000000 in
theorem lpl_main (Z : Array Value) (hzs : ∀ w, Sem.run Tryd.prog (zeroValue 36) w = .ok (.agg Z) w) (hZs : Z.size = 32) (d : List UInt8) (es zs : List (Int × UInt8)) (o oe oz : Option Addr) (c ce cz : Nat) (w : World) (hP : RowIs w o (bytesV d) c) (hE : PairsIs w oe es ce) (hZ : PairsIs w oz zs cz) (hl1 : 1 ≤ d.length) (hl2 : d.length ≤ 223) (hl3 : 2 * zs.length + es.length ≤ 32) :
    Calls Tryd.prog 6 #[.slice o d.length c, .slice oe es.length ce, .slice oz zs.length cz] w fun e w' => e = .returned (.bool true) ∧ Below w.heap.size w w' := by
  have h1 := hP.le
  have h2 := hP.cap
  simp only [bytesV_length] at h1
  unfold maxLen at h2
  have hz1 := hZ.le
  have hz2 := hZ.cap
  have he1 := hE.le
  have he2 := hE.cap
  unfold maxLen at hz2 he2
  have HP := Lib.hid hP
  have HZ := Lib.hid hZ
  have HE := Lib.hid hE
  have hd1 : decide ((223 : Int) < (d.length : Int)) = false := decide_eq_false (by omega)
  have hd2 : decide ((32 : Int) < (es.length : Int)) = false := decide_eq_false (by omega)
  have hw2 : IntKind.i64.wrap (2 * (zs.length : Int)) = 2 * (zs.length : Int) := by rw [IntKind.wrap_i64]; omega
  have hw3 : IntKind.i64.wrap (2 * (zs.length : Int) + (es.length : Int)) = 2 * (zs.length : Int) + (es.length : Int) := by rw [IntKind.wrap_i64]; omega
  have hd3 : decide ((32 : Int) < 2 * (zs.length : Int) + (es.length : Int)) = false := decide_eq_false (by omega)
  clear hP hZ hE
  go_enter Tryd.func6, Tryd.ntmps6
  go_wp2_with fail
  refine (alive4_any _).mono ?_; rintro e w1 ⟨rfl, hb⟩
  have HB1 := Lib.hid hb
  clear hb
  go_wp2_with fail
  refine (encode_own d o c w1 (HP.out.later HB1.out) hl1 hl2).mono ?_; rintro e w2 ⟨r, g, cap, hr, hc, rfl, hg, hbu, hb⟩
  obtain ⟨V, hV⟩ : ∃ V, d ++ r = V := ⟨_, rfl⟩
  have hVl : V.length = d.length + 32 := by rw [← hV, List.length_append, hr]
  rw [hV] at hc hbu ⊢
  obtain ⟨N, hN⟩ : ∃ N, V.length = N := ⟨_, rfl⟩
  rw [hN] at hVl ⊢
  have HVC := Lib.hid hc
  have HVN := Lib.hid hN
  have HB2 := Lib.hid (Kit.step HB1.out hb)
  have HG : Hid (w1.heap.size ≤ g) := Lib.hid hg
  have hN1 : N ≤ 255 := by omega
  have hN2 : 33 ≤ N := by omega
  have hwN : IntKind.i64.wrap ((d.length : Int) + 32) = (N : Int) := by rw [IntKind.wrap_i64]; omega
  have hNi : (d.length : Int) + 32 = (N : Int) := by omega
  have hmk := make_bools4 N (by omega)
  obtain ⟨w3, hw3⟩ : ∃ w3, (w2.alloc (.cells (Array.replicate N (.bool false)) 4)).alloc (.cells (Array.replicate N (.bool false)) 4) = w3 := ⟨_, rfl⟩
  have hb3 : Below w2.heap.size w2 w3 := by rw [← hw3]; exact ((Below.refl _ _).alloc (Nat.le_refl _) _).alloc (by simp) _
  have hbr1 : BRow w3 w2.heap.size N (fun _ => false) := by rw [← hw3]; exact (brow_new w2 N).later ((Below.refl _ _).alloc (Nat.le_refl _) _)
  have hbr2 : BRow w3 (w2.heap.size + 1) N (fun _ => false) := by
    rw [← hw3]
    have := brow_new (w2.alloc (.cells (Array.replicate N (.bool false)) 4)) N
    rwa [World.size_alloc] at this
  have HB3 := Lib.hid (Kit.step HB2.out hb3)
  have HBR1 := Lib.hid hbr1
  have HBR2 := Lib.hid hbr2
  have HBU3 := Lib.hid (hbu.later hb3)
  have hglt := hbu.lt
  have HGL : Hid (g < w2.heap.size) := Lib.hid hglt
  have HW3 := Lib.hid hw3
  clear hr hc hV hN hg hbu hb hVl hw3 hb3 hbr1 hbr2 hglt
  go_wp2_with fail
  go_region
  · obtain ⟨w4, hw4⟩ : ∃ w4, w3.drew = w4 := ⟨_, rfl⟩
    have hb4 : Below w3.heap.size w3 w4 := by rw [← hw4]; exact Kit.dn' _ 1
    rw [HW3.out, hw4]
    have hg4 := HBR1.out.later hb4
    have hh4 := HBR2.out.later hb4
    obtain ⟨gh, hgB⟩ : ∃ x, w2.heap.size + 1 = x := ⟨_, rfl⟩
    obtain ⟨gg, hgA⟩ : ∃ x, w2.heap.size = x := ⟨_, rfl⟩
    have HGL4 := Lib.hid HGL.out
    rw [hgB] at hh4 ⊢
    rw [hgA] at hg4 HGL4 ⊢
    have hne : gg ≠ gh := by omega
    have hng : g ≠ gg := by have := HGL4.out; omega
    have hnh : g ≠ gh := by have := HGL4.out; omega
    have hlg : w.heap.size ≤ gg := by have := HB2.out.size; omega
    have hlh : w.heap.size ≤ gh := by have := HB2.out.size; omega
    have hlb : w.heap.size ≤ g := by have := HB1.out.size; have := HG.out; omega
    have HNE := Lib.hid hne
    have HNG := Lib.hid hng
    have HNH := Lib.hid hnh
    have HLG := Lib.hid hlg
    have HLH := Lib.hid hlh
    have HLB := Lib.hid hlb
    have HB4 := Lib.hid (Kit.step HB3.out hb4)
    have HG4 := Lib.hid hg4
    have HH4 := Lib.hid hh4
    have HU4 := Lib.hid (HBU3.out.later hb4)
    obtain ⟨w5, hw5⟩ : ∃ w5, w4.alloc (.cells #[] 3) = w5 := ⟨_, rfl⟩
    have hb5 : Below w4.heap.size w4 w5 := by rw [← hw5]; exact (Below.refl _ _).alloc (Nat.le_refl _) _
    have HO5 : Hid (w5.ownsRow w.heap.size 3 1 (.slice (some ⟨w4.heap.size, 0, none⟩) 0 0) 0 (intsV [])) := Lib.hid (by rw [← hw5]; exact World.ownsRow_lit w4 #[] 0 HB4.out.size (Nat.zero_le _) rfl)
    have HG5 : Hid (BRow w5 gg N (fun p => decide ((p : Int) ∈ ([] : List Int)))) := Lib.hid ((hg4.later hb5).cong fun i _ => by simp)
    have HH5 := Lib.hid (hh4.later hb5)
    have HU5 := Lib.hid (HU4.out.later hb5)
    have HB5 := Lib.hid (Kit.step HB4.out hb5)
    have HW5 := Lib.hid hw5
    clear hw4 hb4 hg4 hh4 hgA hgB hne hng hnh hlg hlh hlb hw5 hb5
    go_wp2_with fail
    rw [HW5.out]
    go_loopw [12, 14, 15, 69] (fun pv _ _ iv wr => Pl1At V es.length N gg gh g cap w pv iv wr) (fun _ _ _ iv _ => es.length - (intOf iv).toNat)
    case atStart => exact ⟨0, Nat.zero_le _, rfl, V, [], HVN.out, HO5.out, HG5.out, HH5.out, HU5.out, HB5.out, Nat.le_refl _, List.nodup_nil, fun q hq => (by cases hq), fun p _ _ => rfl⟩
    case round =>
      clear HG5 HH5 HU5 HB5 HW5 HO5
      obtain ⟨k, hk, rfl, W, z, hWl, hown, hbg, hbh, hbu, hb, hzk, hnd, hzr, heq⟩ := hrel
      by_cases hkz : k < es.length
      · obtain ⟨b, off, rfl, hblt, hcells⟩ := (HE.out.later hb).cells (by omega)
        obtain ⟨hcq, hcb⟩ := hcells k hkz
        have hcb2 : wr.cell? ⟨b, off + k * 2 + 1, none⟩ = _ := hcb
        have hqw := HE.out.wf k
        obtain ⟨q, hq⟩ : ∃ q, (es.getD k (0, 0)).1 = q := ⟨_, rfl⟩
        obtain ⟨y, hy⟩ : ∃ y, (es.getD k (0, 0)).2 = y := ⟨_, rfl⟩
        rw [hq] at hcq hqw
        rw [hy] at hcb hcb2
        obtain ⟨u, hu⟩ : ∃ u, (q % 18446744073709551616).toNat = u := ⟨_, rfl⟩
        have hwu : IntKind.u64.wrap q = (u : Int) := by rw [wrap_u644, hu]
        have hwn : IntKind.u64.wrap (N : Int) = (N : Int) := by rw [wrap_u644]; omega
        obtain ⟨p, hp⟩ : ∃ p, u % N = p := ⟨_, rfl⟩
        have hpl : p < N := by rw [← hp]; exact Nat.mod_lt _ (by omega)
        have htm : Int.tmod (u : Int) (N : Int) = (p : Int) := by rw [← hp]; rfl
        have hwp : IntKind.u64.wrap (p : Int) = (p : Int) := by rw [wrap_u644]; omega
        have hwp2 : IntKind.i64.wrap (p : Int) = (p : Int) := by rw [IntKind.wrap_i64]; omega
        have hyl := UInt8.toNat_lt y
        have hk0 : (0 : Int) ≤ (k : Int) := by omega
        have hk1 : (k : Int) < (es.length : Int) := by omega
        have hN0 : ((N : Int) == 0) = false := beq_false_of_ne (by omega)
        have hN00 : ¬ (N : Int) = 0 := by omega
        have hp0 : (0 : Int) ≤ (p : Int) := by omega
        have hp1 : (p : Int) < (N : Int) := by omega
        obtain ⟨w5, hw5⟩ : ∃ w5, wr.alloc (.cells #[.int .i64 q, .int .u8 (y.toNat : Int)] 57) = w5 := ⟨_, rfl⟩
        have hb5 : Below wr.heap.size wr w5 := by rw [← hw5]; exact (Below.refl _ _).alloc (Nat.le_refl _) _
        have hQ5 : w5.heap[wr.heap.size]? = some (.cells #[.int .i64 q, .int .u8 (y.toNat : Int)] 57 (0, 0)) := by rw [← hw5]; exact World.alloc_heap_new _ _
        have hg5 := hbg.later hb5
        have hh5 := hbh.later hb5
        have hu5 := hbu.later hb5
        have HQ5 := Lib.hid hQ5
        have HG5 := Lib.hid hg5
        have HH5 := Lib.hid hh5
        have HU5 := Lib.hid hu5
        have HB5 := Lib.hid (Kit.step hb hb5)
        have HWL := Lib.hid hWl
        have HPL := Lib.hid hpl
        have hpl' := hpl
        have HW5 := Lib.hid hw5
        have HQR : Hid (wr.heap.size < w5.heap.size) := Lib.hid (Array.getElem?_eq_some_iff.1 hQ5).1
        have hcg := hg5.cell p hpl'
        have hcg' := hbg.cell p hpl'
        have hfg := hg5.frozen p
        have hfg' := hbg.frozen p
        have HO5 := Lib.hid (own_laterI hown hb5)
        have HND := Lib.hid hnd
        have HZR := Lib.hid hzr
        have HEQ := Lib.hid heq
        rw [← hw5] at hcg hfg
        clear hcells hbg hbh hbu hb hnd hzr heq hWl hq hy hu hp hg5 hh5 hu5 hb5 hQ5 hw5 hown hpl
        by_cases hpz : (p : Int) ∈ z
        · rw [decide_eq_true hpz] at hcg hcg'
          clear hpz
          go_wp2_with fail
          rw [HW5.out]
          go_roundw
          case rel => exact ⟨k + 1, by omega, by go_num, W, z, HWL.out, HO5.out, HG5.out, HH5.out, HU5.out, HB5.out, by omega, HND.out, HZR.out, HEQ.out⟩
          case measure => simp [intOf]; omega
        · rw [decide_eq_false hpz] at hcg hcg'
          have HPZ := Lib.hid hpz
          obtain ⟨w6, hw6⟩ : ∃ w6, w5.setCell ⟨gg, p, none⟩ (.bool true) = w6 := ⟨_, rfl⟩
          have hst := HG5.out.store p true
          rw [hw6] at hst
          have hg6 : BRow w6 gg N (fun q => decide ((q : Int) ∈ z ++ [(p : Int)])) := hst.1.cong fun i _ => by
            by_cases e : i = p
            · simp [e]
            · have e2 : ¬ (i : Int) = (p : Int) := by omega
              simp [e, e2]
          have hh6 := HH5.out.only hst.2 (fun e => HNE.out e.symm)
          have hu6 : Buf w6 g cap W := buf_same4 HU5.out (World.grownBy.block hst.2 g HU5.out.lt (fun e => HNG.out (by cases e; rfl)))
          have ho6 := own_only HO5.out hst.2 (show w5.heap[gg]? = some (.cells _ _ _) from HG5.out) (by decide)
          have hq6 : w6.heap[wr.heap.size]? = some (.cells #[.int .i64 q, .int .u8 (y.toNat : Int)] 57 (0, 0)) := by
            rw [World.grownBy.block hst.2 wr.heap.size HQR.out (fun e => by
              have h1 := HQ5.out
              have h2 : w5.heap[gg]? = _ := HG5.out
              cases e
              rw [h1] at h2
              injection h2 with h2
              injection h2 with _ h2 _
              exact absurd h2 (by decide))]
            exact HQ5.out
          have hb6 : Below w.heap.size w w6 := HB5.out.trans (Only.below hst.2 HLG.out HB5.out.size)
          obtain ⟨w7, hw7⟩ : ∃ w7, w6.alloc (.cells #[.int .i64 (p : Int)] 3) = w7 := ⟨_, rfl⟩
          have hb7 : Below w6.heap.size w6 w7 := by rw [← hw7]; exact (Below.refl _ _).alloc (Nat.le_refl _) _
          have HO7 := Lib.hid (own_laterI ho6 hb7)
          have HC7 : Hid (w7.cell? ⟨w6.heap.size, 0, none⟩ = some (.int .i64 (p : Int))) := Lib.hid (by rw [← hw7, cell_of_row _ _ 0 _ _ _ (World.alloc_heap_new w6 _)]; rfl)
          have HB7 := Lib.hid (Kit.step hb6 hb7)
          have HG7 := Lib.hid (hg6.later hb7)
          have HH7 := Lib.hid (hh6.later hb7)
          have HU7 := Lib.hid (hu6.later hb7)
          have HQ7 : Hid (w7.heap[wr.heap.size]? = some (.cells #[.int .i64 q, .int .u8 (y.toNat : Int)] 57 (0, 0))) := Lib.hid (by rw [hb7.block _ (Array.getElem?_eq_some_iff.1 hq6).1]; exact hq6)
          have HW6 := Lib.hid hw6
          have HW7 := Lib.hid hw7
          clear hpz hst hw6 hg6 hh6 hu6 ho6 hq6 hb6 hw7 hb7
          go_wp2_with (first | rw [HW5.out, HW6.out] | rw [HW6.out] | rw [HW7.out] | (at_builtin; refine append_int rfl (.tmp 88) (.tmp 90) rfl w.heap.size _ z.length z rfl HO7.out _ (p : Int) rfl HC7.out (by omega) HB7.out.size ?_))
          intro v' w8 hv hgr
          have hu8 := buf_grown HU7.out HO7.out hgr
          have hq8 := heap_grown HQ7.out (by decide) HO7.out hgr
          have hcy : w8.cell? ⟨wr.heap.size, 1, none⟩ = some (.int .u8 (y.toNat : Int)) := by rw [cell_of_row _ _ 1 _ _ _ hq8]; rfl
          have hcw := hu8.cell p (by rw [HWL.out]; exact hpl')
          have hfw := hu8.frozen p
          have HST := Lib.hid (hu8.store p (co W p ^^^ y))
          have HG8 := Lib.hid (HG7.out.grown HO7.out hgr)
          have HH8 := Lib.hid (HH7.out.grown HO7.out hgr)
          have HO8 : Hid (w8.ownsRow w.heap.size 3 1 v' (z ++ [(p : Int)]).length (intsV (z ++ [(p : Int)]))) := Lib.hid (by simpa using hv)
          have HU8 := Lib.hid hu8
          have HB8 := Lib.hid (own_belowI HB7.out HO7.out hgr)
          have hx := u8c (co W p) y
          obtain ⟨xx, hxx⟩ : ∃ xx, co W p ^^^ y = xx := ⟨_, rfl⟩
          obtain ⟨x, hxe⟩ : ∃ x, co W p = x := ⟨_, rfl⟩
          rw [hxx] at hx HST
          rw [hxe] at hx hcw
          have hxl := UInt8.toNat_lt x
          have hxxl := UInt8.toNat_lt xx
          clear hv hgr hu8 hq8 hcg hcg' hfg hfg' hxx hxe
          go_wp2_with fail
          go_region
          obtain ⟨w9, hw9⟩ : ∃ w9, (w8.setCell ⟨g, p, none⟩ (.int .u8 (xx.toNat : Int))).drew = w9 := ⟨_, rfl⟩
          have hb9 : Below (w8.setCell ⟨g, p, none⟩ (.int .u8 (xx.toNat : Int))).heap.size (w8.setCell ⟨g, p, none⟩ (.int .u8 (xx.toNat : Int))) w9 := by rw [← hw9]; exact Kit.dn' _ 1
          obtain ⟨cu, hcu⟩ := HU8.out.cells
          have HO9 := Lib.hid (own_laterI (own_only HO8.out HST.out.2 hcu (by decide)) hb9)
          have HG9 := Lib.hid ((HG8.out.only HST.out.2 (fun e => HNG.out e.symm)).later hb9)
          have HH9 := Lib.hid ((HH8.out.only HST.out.2 (fun e => HNH.out e.symm)).later hb9)
          have HU9 := Lib.hid (HST.out.1.later hb9)
          have HB9 := Lib.hid (Kit.step (HB8.out.trans (Only.below HST.out.2 HLB.out HB8.out.size)) hb9)
          rw [hw9]
          clear hw9 hb9 hcu hcw hfw hcy
          go_wp2_with fail
          go_roundw
          case rel => exact ⟨k + 1, by omega, by go_num, W.set p xx, z ++ [(p : Int)], by rw [List.length_set]; exact HWL.out, HO9.out, HG9.out, HH9.out, HU9.out, HB9.out, by simp; omega, List.nodup_append.2 ⟨HND.out, by simp, fun a ha b hb => by
              rw [List.mem_singleton] at hb
              rw [hb]
              exact fun e => HPZ.out (e ▸ ha)⟩, fun a ha => by
              rcases List.mem_append.1 ha with h | h
              · exact HZR.out a h
              · rw [List.mem_singleton] at h
                rw [h]
                have := HPL.out
                omega, fun a ha hn => by
              rw [co_set, if_neg (fun h => hn (by rw [h.1]; simp))]
              exact HEQ.out a ha (fun h => hn (by simp [h]))⟩
          case measure => simp [intOf]; omega
      · obtain rfl : k = es.length := by omega
        obtain ⟨op, cp, rfl, hri⟩ := owns_ints hown (by simp)
        have HG0 := Lib.hid hbg
        have HH0 : Hid (BRow wr gh N (fun p => decide (p ∈ ([] : List Nat)))) := Lib.hid (hbh.cong fun i _ => by simp)
        have HU0 := Lib.hid hbu
        have HB0 := Lib.hid hb
        have HRI := Lib.hid hown
        have HND := Lib.hid hnd
        have HZR := Lib.hid hzr
        have HEQ := Lib.hid heq
        have HWL := Lib.hid hWl
        have HZK := Lib.hid hzk
        have hzl : z.length ≤ 32 := by omega
        clear hown hri hbg hbh hbu hb hnd hzr heq hWl hzk
        go_wp2_with fail
        go_loopw [17, 18, 105] (fun _ _ iv wr2 => Pl2At V z op cp zs.length N gg gh g cap w iv wr2) (fun _ _ iv _ => zs.length - (intOf iv).toNat)
        case atStart => exact ⟨0, Nat.zero_le _, rfl, W, [], HWL.out, HRI.out, HG0.out, HH0.out, HU0.out, HB0.out, Nat.le_refl _, List.nodup_nil, fun p hp => (by cases hp), fun p hp hz _ => HEQ.out p hp hz⟩
        case round =>
          rename World => W2
          rename List UInt8 => W0
          clear HG0 HH0 HU0 HB0 HRI HEQ HWL
          obtain ⟨k, hk, rfl, W, H, hWl, hri, hbg, hbh, hbu, hb, hHk, hnd, hmem, heq⟩ := hrel
          by_cases hkz : k < zs.length
          · obtain ⟨b, off, rfl, hblt, hcells⟩ := (HZ.out.later hb).cells (by omega)
            obtain ⟨hcq, hcb⟩ := hcells k hkz
            have hcb2 : W2.cell? ⟨b, off + k * 2 + 1, none⟩ = _ := hcb
            have hqw := HZ.out.wf k
            obtain ⟨q, hq⟩ : ∃ q, (zs.getD k (0, 0)).1 = q := ⟨_, rfl⟩
            obtain ⟨y, hy⟩ : ∃ y, (zs.getD k (0, 0)).2 = y := ⟨_, rfl⟩
            rw [hq] at hcq hqw
            rw [hy] at hcb hcb2
            obtain ⟨u, hu⟩ : ∃ u, (q % 18446744073709551616).toNat = u := ⟨_, rfl⟩
            have hwu : IntKind.u64.wrap q = (u : Int) := by rw [wrap_u644, hu]
            have hwn : IntKind.u64.wrap (N : Int) = (N : Int) := by rw [wrap_u644]; omega
            obtain ⟨p, hp⟩ : ∃ p, u % N = p := ⟨_, rfl⟩
            have hpl : p < N := by rw [← hp]; exact Nat.mod_lt _ (by omega)
            have htm : Int.tmod (u : Int) (N : Int) = (p : Int) := by rw [← hp]; rfl
            have hwp : IntKind.u64.wrap (p : Int) = (p : Int) := by rw [wrap_u644]; omega
            have hwp2 : IntKind.i64.wrap (p : Int) = (p : Int) := by rw [IntKind.wrap_i64]; omega
            have hyl := UInt8.toNat_lt y
            have hk0 : (0 : Int) ≤ (k : Int) := by omega
            have hk1 : (k : Int) < (zs.length : Int) := by omega
            have hN0 : ((N : Int) == 0) = false := beq_false_of_ne (by omega)
            have hN00 : ¬ (N : Int) = 0 := by omega
            have hp0 : (0 : Int) ≤ (p : Int) := by omega
            have hp1 : (p : Int) < (N : Int) := by omega
            obtain ⟨w5, hw5⟩ : ∃ w5, W2.alloc (.cells #[.int .i64 q, .int .u8 (y.toNat : Int)] 57) = w5 := ⟨_, rfl⟩
            have hb5 : Below W2.heap.size W2 w5 := by rw [← hw5]; exact (Below.refl _ _).alloc (Nat.le_refl _) _
            have hQ5 : w5.heap[W2.heap.size]? = some (.cells #[.int .i64 q, .int .u8 (y.toNat : Int)] 57 (0, 0)) := by rw [← hw5]; exact World.alloc_heap_new _ _
            have hg5 := hbg.later hb5
            have hh5 := hbh.later hb5
            have hu5 := hbu.later hb5
            have HQ5 := Lib.hid hQ5
            have HG5 := Lib.hid hg5
            have HH5 := Lib.hid hh5
            have HU5 := Lib.hid hu5
            have HB5 := Lib.hid (Kit.step hb hb5)
            have HWL := Lib.hid hWl
            have HPL := Lib.hid hpl
            have hpl' := hpl
            have HW5 := Lib.hid hw5
            have HQR : Hid (W2.heap.size < w5.heap.size) := Lib.hid (Array.getElem?_eq_some_iff.1 hQ5).1
            have hri5 := own_laterI hri hb5
            have hcg := hg5.cell p hpl'
            have hcg' := hbg.cell p hpl'
            have hch := hh5.cell p hpl'
            have hch' := hbh.cell p hpl'
            have hfh := hh5.frozen p
            have hfh' := hbh.frozen p
            have HRI5 := Lib.hid hri5
            have HND2 := Lib.hid hnd
            have HMEM := Lib.hid hmem
            have HEQ := Lib.hid heq
            rw [← hw5] at hcg hch hfh
            clear hcells hri hri5 hbg hbh hbu hb hnd hmem heq hWl hq hy hu hp hg5 hh5 hu5 hb5 hQ5 hw5 hpl
            by_cases hpz : (p : Int) ∈ z
            · rw [decide_eq_true hpz] at hcg hcg'
              clear hpz hch hch'
              go_wp2_with fail
              rw [HW5.out]
              go_roundw
              case rel => exact ⟨k + 1, by omega, by go_num, W, H, HWL.out, HRI5.out, HG5.out, HH5.out, HU5.out, HB5.out, by omega, HND2.out, HMEM.out, HEQ.out⟩
              case measure => simp [intOf]; omega
            · rw [decide_eq_false hpz] at hcg hcg'
              have HPZ := Lib.hid hpz
              clear hpz
              by_cases hpH : p ∈ H
              · rw [decide_eq_true hpH] at hch hch'
                clear hpH
                go_wp2_with fail
                rw [HW5.out]
                go_roundw
                case rel => exact ⟨k + 1, by omega, by go_num, W, H, HWL.out, HRI5.out, HG5.out, HH5.out, HU5.out, HB5.out, by omega, HND2.out, HMEM.out, HEQ.out⟩
                case measure => simp [intOf]; omega
              · rw [decide_eq_false hpH] at hch hch'
                have HPH := Lib.hid hpH
                clear hpH
                by_cases hy0 : y = 0
                · have hyb : ((y.toNat : Int) != 0) = false := by rw [hy0]; rfl
                  clear hy0
                  go_wp2_with fail
                  rw [HW5.out]
                  go_roundw
                  case rel => exact ⟨k + 1, by omega, by go_num, W, H, HWL.out, HRI5.out, HG5.out, HH5.out, HU5.out, HB5.out, by omega, HND2.out, HMEM.out, HEQ.out⟩
                  case measure => simp [intOf]; omega
                · have hyn : ¬ (y.toNat : Int) = 0 := fun h => hy0 (UInt8.toNat_inj.1 (by simpa using h))
                  have hyb : ((y.toNat : Int) != 0) = true := by rw [bne_iff_ne]; exact hyn
                  have HSTP := Lib.hid (pl2_step HWL.out HMEM.out HEQ.out HPL.out HPZ.out HPH.out hy0)
                  obtain ⟨w6, hw6⟩ : ∃ w6, w5.setCell ⟨gh, p, none⟩ (.bool true) = w6 := ⟨_, rfl⟩
                  have hst := HH5.out.store p true
                  rw [hw6] at hst
                  have hh6 : BRow w6 gh N (fun q => decide (q ∈ p :: H)) := hst.1.cong fun i _ => by
                    by_cases e : i = p
                    · simp [e]
                    · simp [e]
                  have hg6 := HG5.out.only hst.2 HNE.out
                  have hu6 : Buf w6 g cap W := buf_same4 HU5.out (World.grownBy.block hst.2 g HU5.out.lt (fun e => HNH.out (by cases e; rfl)))
                  have hri6 := own_only HRI5.out hst.2 (show w5.heap[gh]? = some (.cells _ _ _) from HH5.out) (by decide)
                  have hq6 : w6.heap[W2.heap.size]? = some (.cells #[.int .i64 q, .int .u8 (y.toNat : Int)] 57 (0, 0)) := by
                    rw [World.grownBy.block hst.2 W2.heap.size HQR.out (fun e => by
                      have h1 := HQ5.out
                      have h2 : w5.heap[gh]? = _ := HH5.out
                      cases e
                      rw [h1] at h2
                      injection h2 with h2
                      injection h2 with _ h2 _
                      exact absurd h2 (by decide))]
                    exact HQ5.out
                  have hb6 : Below w.heap.size w w6 := HB5.out.trans (Only.below hst.2 HLH.out HB5.out.size)
                  have hcy : w6.cell? ⟨W2.heap.size, 1, none⟩ = some (.int .u8 (y.toNat : Int)) := by rw [cell_of_row _ _ 1 _ _ _ hq6]; rfl
                  have hcw := hu6.cell p (by rw [HWL.out]; exact hpl')
                  have hfw := hu6.frozen p
                  have HST := Lib.hid (hu6.store p (co W p ^^^ y))
                  have HG6 := Lib.hid hg6
                  have HH6 := Lib.hid hh6
                  have HU6 := Lib.hid hu6
                  have HRI6 := Lib.hid hri6
                  have HB6 := Lib.hid hb6
                  have HW6 := Lib.hid hw6
                  have hx := u8c (co W p) y
                  obtain ⟨xx, hxx⟩ : ∃ xx, co W p ^^^ y = xx := ⟨_, rfl⟩
                  obtain ⟨x, hxe⟩ : ∃ x, co W p = x := ⟨_, rfl⟩
                  rw [hxx] at hx HST HSTP
                  rw [hxe] at hx hcw
                  have hxl := UInt8.toNat_lt x
                  have hxxl := UInt8.toNat_lt xx
                  clear hy0 hst hw6 hg6 hh6 hu6 hri6 hq6 hb6 hxx hxe
                  go_wp2_with fail
                  rw [HW5.out, HW6.out]
                  clear hcg hcg' hch hch' hfh hfh'
                  go_region
                  obtain ⟨w9, hw9⟩ : ∃ w9, (w6.setCell ⟨g, p, none⟩ (.int .u8 (xx.toNat : Int))).drew = w9 := ⟨_, rfl⟩
                  have hb9 : Below (w6.setCell ⟨g, p, none⟩ (.int .u8 (xx.toNat : Int))).heap.size (w6.setCell ⟨g, p, none⟩ (.int .u8 (xx.toNat : Int))) w9 := by rw [← hw9]; exact Kit.dn' _ 1
                  obtain ⟨cu, hcu⟩ := HU6.out.cells
                  have HRI9 := Lib.hid (own_laterI (own_only HRI6.out HST.out.2 hcu (by decide)) hb9)
                  have HG9 := Lib.hid ((HG6.out.only HST.out.2 (fun e => HNG.out e.symm)).later hb9)
                  have HH9 := Lib.hid ((HH6.out.only HST.out.2 (fun e => HNH.out e.symm)).later hb9)
                  have HU9 := Lib.hid (HST.out.1.later hb9)
                  have HB9 := Lib.hid (Kit.step (HB6.out.trans (Only.below HST.out.2 HLB.out HB6.out.size)) hb9)
                  rw [hw9]
                  clear hw9 hb9 hcw hfw hcy hcu
                  go_wp2_with fail
                  go_roundw
                  case rel => exact ⟨k + 1, by omega, by go_num, W.set p xx, p :: H, by rw [List.length_set]; exact HWL.out, HRI9.out, HG9.out, HH9.out, HU9.out, HB9.out, by simp; omega, List.nodup_cons.2 ⟨HPH.out, HND2.out⟩, HSTP.out.1, HSTP.out.2⟩
                  case measure => simp [intOf]; omega
          · obtain rfl : k = zs.length := by omega
            have hok : EOk N z := ⟨fun k hk => HZR.out _ (by unfold ci; rw [List.getD_eq_getElem?_getD, List.getElem?_eq_getElem hk]; exact List.getElem_mem hk), fun i j hj hi h => by
              unfold ci at h
              rw [List.getD_eq_getElem?_getD, List.getD_eq_getElem?_getD, List.getElem?_eq_getElem hi, List.getElem?_eq_getElem (by omega)] at h
              have := (List.getElem_inj HND.out).1 h
              omega, hzl⟩
            have hch : Chg V W N z H := ⟨HVC.out, HVN.out, hWl, hN1, hok, hnd, fun p hp => ⟨(hmem p hp).1, (hmem p hp).2.2, (hmem p hp).2.1⟩, fun p hp h hz => by
              by_cases hh : p ∈ H
              · exact hh
              · exact absurd (heq p hp hz hh) h, by have := HZK.out; omega⟩
            have HCH := Lib.hid hch
            have hof := of_any W (some ⟨g, 0, none⟩) cap W2 hbu.row ⟨by omega, by omega⟩
            rw [hWl] at hof
            obtain ⟨s, hs⟩ : ∃ s, synL W = s := ⟨_, rfl⟩
            rw [hs] at hof
            have hsl : s.length = 32 := by rw [← hs]; simp
            obtain ⟨CS, hCS⟩ : ∃ CS, (bytesV s).toArray = CS := ⟨_, rfl⟩
            have hcs1 := one_cell s
            rw [hCS] at hof hcs1
            have HOF := Lib.hid hof
            have HSZ := Lib.hid (csyn_size hsl)
            rw [hCS] at HSZ
            have HCS1 := Lib.hid hcs1
            have HZS : Hid (Z.size = CS.size) := Lib.hid (by rw [hZs, ← hCS]; simp [hsl])
            have HS := Lib.hid hs
            have HSL := Lib.hid hsl
            have HCS := Lib.hid hCS
            have HBX := Lib.hid hb
            have HGX := Lib.hid hbg
            have HHX := Lib.hid hbh
            have HRX := Lib.hid hri
            clear hok hch hof hs hsl hCS hcs1 hri hbg hbh hbu hb hnd hmem heq hWl
            go_wp2_with fail
            refine HOF.out.mono ?_; rintro e w8 ⟨rfl, hb⟩
            have HB8 := Lib.hid (Kit.step HBX.out hb)
            have HBE8 := Lib.hid hb
            have HG9' : Hid ((w8.alloc (.cells Z 36)).heap[w8.heap.size]? = some (.cells Z 36 (0, 0))) := Lib.hid (World.alloc_heap_new _ _)
            obtain ⟨w10, hw10⟩ : ∃ w10, (w8.alloc (.cells Z 36)).setRow w8.heap.size CS = w10 := ⟨_, rfl⟩
            have HG10 : Hid (w10.heap[w8.heap.size]? = some (.cells CS 36 (0, 0))) := Lib.hid (by rw [← hw10]; exact setRow_heap _ _ _ _ _ _ HG9'.out)
            have HBE10 : Hid (Below w8.heap.size w8 w10) := Lib.hid (by rw [← hw10]; exact ((Below.refl _ _).alloc (Nat.le_refl _) _).trans (below_setRow (Nat.le_refl _)))
            have HB10 := Lib.hid (Kit.step HB8.out HBE10.out)
            have hbe := Kit.step HBE8.out HBE10.out
            have HGY := Lib.hid (HGX.out.later hbe)
            have HHY := Lib.hid (HHX.out.later hbe)
            have hri := owns_ints (own_laterI HRX.out hbe) rfl
            obtain ⟨op', cp', he', hri⟩ := hri
            cases he'
            have HRY := Lib.hid hri
            have HW10 := Lib.hid hw10
            clear hb hw10 HOF hbe hri
            go_wp2_with (first | (refine wpList_store_row rfl 36 (.tmp 19) (.tmp 150) rfl w8.heap.size CS rfl rfl 36 Z HG9'.out HSZ.out HZS.out HCS1.out ?_; rw [HW10.out]) | refine wpList_load_row rfl 36 (.tmp 19) rfl w8.heap.size rfl 36 CS (0, 0) _ HG10.out csyn_under rfl HSZ.out ?_)
            have hfi := cfi_any s z N cp op w10 (fun _ => ⟨0, 0, none⟩) HSL.out HRY.out hN2 hN1 (by omega) (fun h => absurd HCH.out.ok h) (fun ⟨C, L, h1, h2⟩ => by
              rw [← HS.out] at h1
              have h3 := (HCH.out.reg h1).1
              have h4 := HCH.out.len h1
              have := HCH.out.few
              omega) CS HCS.out
            refine hfi.mono ?_
            clear hfi
            rintro e w11 ⟨hb, ⟨⟨k, hk, hkb⟩, _⟩ | ⟨_, ⟨⟨i, j, hj, hi, hij⟩, _⟩ | ⟨_, ⟨h, _⟩ | ⟨_, C, L, hrf, ⟨h2, _⟩ | ⟨h2, h3, x1, x2, rfl, hx1, hx2⟩⟩⟩⟩⟩
            · exfalso
              have := HCH.out.ok.1 k hk
              omega
            · exact absurd hij (HCH.out.ok.2.1 i j hj hi)
            · omega
            · exfalso
              rw [← HS.out] at hrf
              have h3 := (HCH.out.reg hrf).1
              have h4 := HCH.out.len hrf
              have := HCH.out.few
              omega
            rw [← HS.out] at hrf
            have hra := fun p hp => rootB_all HCH.out hrf p hp
            obtain ⟨M, hM⟩ : ∃ M, ertL C N z = M := ⟨_, rfl⟩
            simp only [hM] at hra hx1
            obtain ⟨V2, hV2⟩ : ∃ V2, evaL s C N z = V2 := ⟨_, rfl⟩
            rw [hV2] at hx2
            obtain ⟨o6, c6, rfl, hx1⟩ := hx1
            obtain ⟨o9, c9, rfl, hx2⟩ := hx2
            have HRA := Lib.hid hra
            obtain ⟨w12, hw12⟩ : ∃ w12, w11.alloc (.cells #[.int .i64 (L : Int), .slice o6 M.length c6, .slice o9 V2.length c9] 46) = w12 := ⟨_, rfl⟩
            have hb12 : Below w11.heap.size w11 w12 := by rw [← hw12]; exact (Below.refl _ _).alloc (Nat.le_refl _) _
            have HF12 : Hid (w12.heap[w11.heap.size]? = some (.cells #[.int .i64 (L : Int), .slice o6 M.length c6, .slice o9 V2.length c9] 46 (0, 0))) := Lib.hid (by rw [← hw12]; exact World.alloc_heap_new _ _)
            have hbe := Kit.step hb hb12
            have HB12 := Lib.hid (Kit.step HB10.out hbe)
            have HG12 := Lib.hid (HGY.out.later hbe)
            have HH12 := Lib.hid (HHY.out.later hbe)
            have HX12 := Lib.hid (hx1.later hb12)
            have HW12 := Lib.hid hw12
            have hCF : ∀ v, Below w12.heap.size w12 v → v.cell? ⟨w11.heap.size, 1, none⟩ = some (.slice o6 M.length c6) := fun v hv => by
              have : v.heap[w11.heap.size]? = some (.cells #[.int .i64 (L : Int), .slice o6 M.length c6, .slice o9 V2.length c9] 46 (0, 0)) := by rw [hv.block _ (Array.getElem?_eq_some_iff.1 HF12.out).1]; exact HF12.out
              rw [cell_of_row _ _ 1 _ _ _ this]; rfl
            have HCF := Lib.hid hCF
            clear hb hrf hra hM hV2 hx1 hx2 hw12 hb12 hbe h2 h3 hCF HG10
            go_wp2_with fail
            rw [HW12.out]
            obtain ⟨F, hF⟩ : ∃ F, w11.heap.size = F := ⟨_, rfl⟩
            rw [hF] at HCF ⊢
            clear hF
            clear hzs
            go_loopw [21, 22, 23, 24, 25] (fun pv _ _ _ _ wr3 => Pl3At N w12 pv wr3) (fun pv _ _ _ _ _ => N - (intOf pv).toNat)
            case atStart => exact ⟨0, Nat.zero_le _, rfl, Below.refl _ _⟩
            case round =>
              rename World => W3
              obtain ⟨p, hp, rfl, hb⟩ := hrel
              have HB3 := Lib.hid hb
              clear hb
              by_cases hpN : p < N
              · have hpi : (p : Int) < (N : Int) := by omega
                have HPW := Lib.hid (rplace_any N p hpN hN1 W3)
                have HRP := Lib.hid (HRA.out p hpN)
                obtain ⟨x, hx⟩ : ∃ x, Gf.al (N - 1 - p) = x := ⟨_, rfl⟩
                rw [hx] at HPW HRP
                have hxl := UInt8.toNat_lt x
                clear hx
                go_wp2_with fail
                refine HPW.out.mono ?_; rintro e w13 ⟨rfl, rfl⟩
                go_wp2_with fail
                go_loopw [23, 24, 25] (fun rv yv _ wr4 => Pl4At x M w13 rv yv wr4) (fun _ yv _ _ => 256 - (intOf yv).toNat)
                case atStart => exact ⟨0, Nat.zero_le _, rfl, rfl, Below.refl _ _⟩
                case round =>
                  rename World => W4
                  obtain ⟨k, hk, rfl, rfl, hb⟩ := hrel
                  have HB4' := Lib.hid (Kit.step HB3.out hb)
                  have HB4i := Lib.hid hb
                  obtain ⟨j, hj⟩ : ∃ j, k + 1 = j := ⟨_, rfl⟩
                  rw [hj]
                  by_cases hk255 : k < 255
                  · have hjd : decide ((j : Int) < 256) = true := decide_eq_true (by omega)
                    have hji : (j : Int) < 256 := by omega
                    obtain ⟨Y, hY⟩ : ∃ Y, UInt8.ofNat (k + 1) = Y := ⟨_, rfl⟩
                    have hYt : (Y.toNat : Int) = (j : Int) := by rw [← hY, UInt8.toNat_ofNat']; omega
                    have hw8 : IntKind.u8.wrap (j : Int) = (j : Int) := by
                      have : IntKind.u8.wrap (j : Int) = (j : Int) % 256 := by simp [IntKind.wrap, IntKind.bits, IntKind.signed]
                      rw [this]; omega
                    have HSU := Lib.hid (rootB_succ x M k)
                    rw [hY] at HSU
                    obtain ⟨w14, hw14⟩ : ∃ w14, W4.alloc (.cells (bytesV [1, x]).toArray 5) = w14 := ⟨_, rfl⟩
                    have hb14 : Below W4.heap.size W4 w14 := by rw [← hw14]; exact (Below.refl _ _).alloc (Nat.le_refl _) _
                    have hr14 : RowIs w14 (some ⟨W4.heap.size, 0, none⟩) (bytesV [1, x]) 2 := by rw [← hw14]; exact row_cells (World.alloc_heap_new _ _) (by unfold maxLen; simp)
                    have hev1 := reval_any [1, x] Y _ 2 w14 hr14
                    have hev2 := reval_any M Y o6 c6 w14 (HX12.out.later (Kit.step HB4'.out hb14))
                    have hcf := HCF.out w14 (Kit.step HB4'.out hb14)
                    rw [hYt] at hev1 hev2
                    have H2 := ev_two x Y
                    obtain ⟨v1, hv1⟩ : ∃ v1, evL [1, x] Y = v1 := ⟨_, rfl⟩
                    obtain ⟨v2, hv2⟩ : ∃ v2, evL M Y = v2 := ⟨_, rfl⟩
                    rw [hv1] at hev1 H2
                    rw [hv2] at hev2 HSU
                    have HE1 := Lib.hid hev1
                    have HE2 := Lib.hid hev2
                    have HW14 := Lib.hid hw14
                    have HB14 := Lib.hid (Kit.step HB4i.out hb14)
                    have HJ := Lib.hid hj
                    have hv1l := UInt8.toNat_lt v1
                    have hv2l := UInt8.toNat_lt v2
                    obtain ⟨I, hI⟩ : ∃ I, decide (Gf.gm x Y = 1) = I := ⟨_, rfl⟩
                    obtain ⟨E, hE2⟩ : ∃ E, decide (v2 = 0) = E := ⟨_, rfl⟩
                    obtain ⟨RB, hRB⟩ : ∃ RB, rootB x M k = RB := ⟨_, rfl⟩
                    rw [hI, hE2, hRB] at HSU
                    rw [hRB]
                    have hb1 : ((v1.toNat : Int) == 0) = I := by
                      rw [← hI, ← decide_eq_decide.2 H2]
                      by_cases h0 : v1 = 0
                      · rw [decide_eq_true h0]; simp [h0]
                      · rw [decide_eq_false h0]
                        exact beq_false_of_ne (fun h => h0 (UInt8.toNat_inj.1 (by simpa using h)))
                    have hb2 : ((v2.toNat : Int) == 0) = E := by
                      rw [← hE2]
                      by_cases h0 : v2 = 0
                      · rw [decide_eq_true h0]; simp [h0]
                      · rw [decide_eq_false h0]
                        exact beq_false_of_ne (fun h => h0 (UInt8.toNat_inj.1 (by simpa using h)))
                    clear hb hj hY hYt hw14 hb14 hr14 hev1 hev2 H2 hv1 hv2 hI hE2 hRB
                    cases RB <;> cases I <;> cases E
                    all_goals
                      go_wp2_with fail
                      rw [show W4.alloc (.cells #[.int .u8 1, .int .u8 (x.toNat : Int)] 5) = w14 from HW14.out]
                      refine HE1.out.mono ?_; rintro e w15 ⟨rfl, rfl⟩
                      first
                      | (go_wp2_with fail
                         go_roundw
                         case rel => exact ⟨k + 1, by omega, by have := HJ.out; go_num, by rw [HSU.out]; rfl, HB14.out⟩
                         case measure => have := HJ.out; simp [intOf]; omega)
                      | (go_wp2_with fail
                         refine HE2.out.mono ?_; rintro e w16 ⟨rfl, rfl⟩
                         go_wp2_with fail
                         go_roundw
                         case rel => exact ⟨k + 1, by omega, by have := HJ.out; go_num, by rw [HSU.out]; rfl, HB14.out⟩
                         case measure => have := HJ.out; simp [intOf]; omega)
                  · obtain rfl : k = 255 := by omega
                    have hjd : decide ((j : Int) < 256) = false := decide_eq_false (by omega)
                    have hji : ¬ (j : Int) < 256 := by omega
                    have hcg := (HG12.out.later HB4'.out).cell p hpN
                    have hch := (HH12.out.later HB4'.out).cell p hpN
                    have hp0 : (0 : Int) ≤ (p : Int) := by omega
                    obtain ⟨GB, hGB⟩ : ∃ GB, decide ((p : Int) ∈ z) = GB := ⟨_, rfl⟩
                    obtain ⟨HB, hHB⟩ : ∃ HB, decide (p ∈ H) = HB := ⟨_, rfl⟩
                    have hrp := HRP.out
                    rw [hGB] at hcg hrp
                    rw [hHB] at hch hrp
                    rw [hrp]
                    clear hb hj hrp hGB hHB
                    cases GB <;> cases HB
                    all_goals
                      go_wp2_with fail
                      go_roundw
                      case rel => exact ⟨p + 1, by omega, by go_num, HB4'.out⟩
                      case measure => simp [intOf]; omega
              · obtain rfl : p = N := by omega
                go_wp2_with fail
                go_ret
                exact ⟨rfl, Kit.step HB12.out HB3.out⟩
  · obtain ⟨w4, hw4⟩ : ∃ w4, w3.drew = w4 := ⟨_, rfl⟩
    have hb4 : Below w3.heap.size w3 w4 := by rw [← hw4]; exact Kit.dn' _ 1
    rw [HW3.out, hw4]
    have hg4 := HBR2.out.later hb4
    have hh4 := HBR1.out.later hb4
    obtain ⟨gg, hgB⟩ : ∃ x, w2.heap.size + 1 = x := ⟨_, rfl⟩
    obtain ⟨gh, hgA⟩ : ∃ x, w2.heap.size = x := ⟨_, rfl⟩
    have HGL4 := Lib.hid HGL.out
    rw [hgB] at hg4 ⊢
    rw [hgA] at hh4 HGL4 ⊢
    have hne : gg ≠ gh := by omega
    have hng : g ≠ gg := by have := HGL4.out; omega
    have hnh : g ≠ gh := by have := HGL4.out; omega
    have hlg : w.heap.size ≤ gg := by have := HB2.out.size; omega
    have hlh : w.heap.size ≤ gh := by have := HB2.out.size; omega
    have hlb : w.heap.size ≤ g := by have := HB1.out.size; have := HG.out; omega
    have HNE := Lib.hid hne
    have HNG := Lib.hid hng
    have HNH := Lib.hid hnh
    have HLG := Lib.hid hlg
    have HLH := Lib.hid hlh
    have HLB := Lib.hid hlb
    have HB4 := Lib.hid (Kit.step HB3.out hb4)
    have HG4 := Lib.hid hg4
    have HH4 := Lib.hid hh4
    have HU4 := Lib.hid (HBU3.out.later hb4)
    obtain ⟨w5, hw5⟩ : ∃ w5, w4.alloc (.cells #[] 3) = w5 := ⟨_, rfl⟩
    have hb5 : Below w4.heap.size w4 w5 := by rw [← hw5]; exact (Below.refl _ _).alloc (Nat.le_refl _) _
    have HO5 : Hid (w5.ownsRow w.heap.size 3 1 (.slice (some ⟨w4.heap.size, 0, none⟩) 0 0) 0 (intsV [])) := Lib.hid (by rw [← hw5]; exact World.ownsRow_lit w4 #[] 0 HB4.out.size (Nat.zero_le _) rfl)
    have HG5 : Hid (BRow w5 gg N (fun p => decide ((p : Int) ∈ ([] : List Int)))) := Lib.hid ((hg4.later hb5).cong fun i _ => by simp)
    have HH5 := Lib.hid (hh4.later hb5)
    have HU5 := Lib.hid (HU4.out.later hb5)
    have HB5 := Lib.hid (Kit.step HB4.out hb5)
    have HW5 := Lib.hid hw5
    clear hw4 hb4 hg4 hh4 hgA hgB hne hng hnh hlg hlh hlb hw5 hb5
    go_wp2_with fail
    rw [HW5.out]
    go_loopw [12, 14, 15, 69] (fun pv _ _ iv wr => Pl1At V es.length N gg gh g cap w pv iv wr) (fun _ _ _ iv _ => es.length - (intOf iv).toNat)
    case atStart => exact ⟨0, Nat.zero_le _, rfl, V, [], HVN.out, HO5.out, HG5.out, HH5.out, HU5.out, HB5.out, Nat.le_refl _, List.nodup_nil, fun q hq => (by cases hq), fun p _ _ => rfl⟩
    case round =>
      clear HG5 HH5 HU5 HB5 HW5 HO5
      obtain ⟨k, hk, rfl, W, z, hWl, hown, hbg, hbh, hbu, hb, hzk, hnd, hzr, heq⟩ := hrel
      by_cases hkz : k < es.length
      · obtain ⟨b, off, rfl, hblt, hcells⟩ := (HE.out.later hb).cells (by omega)
        obtain ⟨hcq, hcb⟩ := hcells k hkz
        have hcb2 : wr.cell? ⟨b, off + k * 2 + 1, none⟩ = _ := hcb
        have hqw := HE.out.wf k
        obtain ⟨q, hq⟩ : ∃ q, (es.getD k (0, 0)).1 = q := ⟨_, rfl⟩
        obtain ⟨y, hy⟩ : ∃ y, (es.getD k (0, 0)).2 = y := ⟨_, rfl⟩
        rw [hq] at hcq hqw
        rw [hy] at hcb hcb2
        obtain ⟨u, hu⟩ : ∃ u, (q % 18446744073709551616).toNat = u := ⟨_, rfl⟩
        have hwu : IntKind.u64.wrap q = (u : Int) := by rw [wrap_u644, hu]
        have hwn : IntKind.u64.wrap (N : Int) = (N : Int) := by rw [wrap_u644]; omega
        obtain ⟨p, hp⟩ : ∃ p, u % N = p := ⟨_, rfl⟩
        have hpl : p < N := by rw [← hp]; exact Nat.mod_lt _ (by omega)
        have htm : Int.tmod (u : Int) (N : Int) = (p : Int) := by rw [← hp]; rfl
        have hwp : IntKind.u64.wrap (p : Int) = (p : Int) := by rw [wrap_u644]; omega
        have hwp2 : IntKind.i64.wrap (p : Int) = (p : Int) := by rw [IntKind.wrap_i64]; omega
        have hyl := UInt8.toNat_lt y
        have hk0 : (0 : Int) ≤ (k : Int) := by omega
        have hk1 : (k : Int) < (es.length : Int) := by omega
        have hN0 : ((N : Int) == 0) = false := beq_false_of_ne (by omega)
        have hN00 : ¬ (N : Int) = 0 := by omega
        have hp0 : (0 : Int) ≤ (p : Int) := by omega
        have hp1 : (p : Int) < (N : Int) := by omega
        obtain ⟨w5, hw5⟩ : ∃ w5, wr.alloc (.cells #[.int .i64 q, .int .u8 (y.toNat : Int)] 57) = w5 := ⟨_, rfl⟩
        have hb5 : Below wr.heap.size wr w5 := by rw [← hw5]; exact (Below.refl _ _).alloc (Nat.le_refl _) _
        have hQ5 : w5.heap[wr.heap.size]? = some (.cells #[.int .i64 q, .int .u8 (y.toNat : Int)] 57 (0, 0)) := by rw [← hw5]; exact World.alloc_heap_new _ _
        have hg5 := hbg.later hb5
        have hh5 := hbh.later hb5
        have hu5 := hbu.later hb5
        have HQ5 := Lib.hid hQ5
        have HG5 := Lib.hid hg5
        have HH5 := Lib.hid hh5
        have HU5 := Lib.hid hu5
        have HB5 := Lib.hid (Kit.step hb hb5)
        have HWL := Lib.hid hWl
        have HPL := Lib.hid hpl
        have hpl' := hpl
        have HW5 := Lib.hid hw5
        have HQR : Hid (wr.heap.size < w5.heap.size) := Lib.hid (Array.getElem?_eq_some_iff.1 hQ5).1
        have hcg := hg5.cell p hpl'
        have hcg' := hbg.cell p hpl'
        have hfg := hg5.frozen p
        have hfg' := hbg.frozen p
        have HO5 := Lib.hid (own_laterI hown hb5)
        have HND := Lib.hid hnd
        have HZR := Lib.hid hzr
        have HEQ := Lib.hid heq
        rw [← hw5] at hcg hfg
        clear hcells hbg hbh hbu hb hnd hzr heq hWl hq hy hu hp hg5 hh5 hu5 hb5 hQ5 hw5 hown hpl
        by_cases hpz : (p : Int) ∈ z
        · rw [decide_eq_true hpz] at hcg hcg'
          clear hpz
          go_wp2_with fail
          rw [HW5.out]
          go_roundw
          case rel => exact ⟨k + 1, by omega, by go_num, W, z, HWL.out, HO5.out, HG5.out, HH5.out, HU5.out, HB5.out, by omega, HND.out, HZR.out, HEQ.out⟩
          case measure => simp [intOf]; omega
        · rw [decide_eq_false hpz] at hcg hcg'
          have HPZ := Lib.hid hpz
          obtain ⟨w6, hw6⟩ : ∃ w6, w5.setCell ⟨gg, p, none⟩ (.bool true) = w6 := ⟨_, rfl⟩
          have hst := HG5.out.store p true
          rw [hw6] at hst
          have hg6 : BRow w6 gg N (fun q => decide ((q : Int) ∈ z ++ [(p : Int)])) := hst.1.cong fun i _ => by
            by_cases e : i = p
            · simp [e]
            · have e2 : ¬ (i : Int) = (p : Int) := by omega
              simp [e, e2]
          have hh6 := HH5.out.only hst.2 (fun e => HNE.out e.symm)
          have hu6 : Buf w6 g cap W := buf_same4 HU5.out (World.grownBy.block hst.2 g HU5.out.lt (fun e => HNG.out (by cases e; rfl)))
          have ho6 := own_only HO5.out hst.2 (show w5.heap[gg]? = some (.cells _ _ _) from HG5.out) (by decide)
          have hq6 : w6.heap[wr.heap.size]? = some (.cells #[.int .i64 q, .int .u8 (y.toNat : Int)] 57 (0, 0)) := by
            rw [World.grownBy.block hst.2 wr.heap.size HQR.out (fun e => by
              have h1 := HQ5.out
              have h2 : w5.heap[gg]? = _ := HG5.out
              cases e
              rw [h1] at h2
              injection h2 with h2
              injection h2 with _ h2 _
              exact absurd h2 (by decide))]
            exact HQ5.out
          have hb6 : Below w.heap.size w w6 := HB5.out.trans (Only.below hst.2 HLG.out HB5.out.size)
          obtain ⟨w7, hw7⟩ : ∃ w7, w6.alloc (.cells #[.int .i64 (p : Int)] 3) = w7 := ⟨_, rfl⟩
          have hb7 : Below w6.heap.size w6 w7 := by rw [← hw7]; exact (Below.refl _ _).alloc (Nat.le_refl _) _
          have HO7 := Lib.hid (own_laterI ho6 hb7)
          have HC7 : Hid (w7.cell? ⟨w6.heap.size, 0, none⟩ = some (.int .i64 (p : Int))) := Lib.hid (by rw [← hw7, cell_of_row _ _ 0 _ _ _ (World.alloc_heap_new w6 _)]; rfl)
          have HB7 := Lib.hid (Kit.step hb6 hb7)
          have HG7 := Lib.hid (hg6.later hb7)
          have HH7 := Lib.hid (hh6.later hb7)
          have HU7 := Lib.hid (hu6.later hb7)
          have HQ7 : Hid (w7.heap[wr.heap.size]? = some (.cells #[.int .i64 q, .int .u8 (y.toNat : Int)] 57 (0, 0))) := Lib.hid (by rw [hb7.block _ (Array.getElem?_eq_some_iff.1 hq6).1]; exact hq6)
          have HW6 := Lib.hid hw6
          have HW7 := Lib.hid hw7
          clear hpz hst hw6 hg6 hh6 hu6 ho6 hq6 hb6 hw7 hb7
          go_wp2_with (first | rw [HW5.out, HW6.out] | rw [HW6.out] | rw [HW7.out] | (at_builtin; refine append_int rfl (.tmp 88) (.tmp 90) rfl w.heap.size _ z.length z rfl HO7.out _ (p : Int) rfl HC7.out (by omega) HB7.out.size ?_))
          intro v' w8 hv hgr
          have hu8 := buf_grown HU7.out HO7.out hgr
          have hq8 := heap_grown HQ7.out (by decide) HO7.out hgr
          have hcy : w8.cell? ⟨wr.heap.size, 1, none⟩ = some (.int .u8 (y.toNat : Int)) := by rw [cell_of_row _ _ 1 _ _ _ hq8]; rfl
          have hcw := hu8.cell p (by rw [HWL.out]; exact hpl')
          have hfw := hu8.frozen p
          have HST := Lib.hid (hu8.store p (co W p ^^^ y))
          have HG8 := Lib.hid (HG7.out.grown HO7.out hgr)
          have HH8 := Lib.hid (HH7.out.grown HO7.out hgr)
          have HO8 : Hid (w8.ownsRow w.heap.size 3 1 v' (z ++ [(p : Int)]).length (intsV (z ++ [(p : Int)]))) := Lib.hid (by simpa using hv)
          have HU8 := Lib.hid hu8
          have HB8 := Lib.hid (own_belowI HB7.out HO7.out hgr)
          have hx := u8c (co W p) y
          obtain ⟨xx, hxx⟩ : ∃ xx, co W p ^^^ y = xx := ⟨_, rfl⟩
          obtain ⟨x, hxe⟩ : ∃ x, co W p = x := ⟨_, rfl⟩
          rw [hxx] at hx HST
          rw [hxe] at hx hcw
          have hxl := UInt8.toNat_lt x
          have hxxl := UInt8.toNat_lt xx
          clear hv hgr hu8 hq8 hcg hcg' hfg hfg' hxx hxe
          go_wp2_with fail
          go_region
          obtain ⟨w9, hw9⟩ : ∃ w9, (w8.setCell ⟨g, p, none⟩ (.int .u8 (xx.toNat : Int))).drew = w9 := ⟨_, rfl⟩
          have hb9 : Below (w8.setCell ⟨g, p, none⟩ (.int .u8 (xx.toNat : Int))).heap.size (w8.setCell ⟨g, p, none⟩ (.int .u8 (xx.toNat : Int))) w9 := by rw [← hw9]; exact Kit.dn' _ 1
          obtain ⟨cu, hcu⟩ := HU8.out.cells
          have HO9 := Lib.hid (own_laterI (own_only HO8.out HST.out.2 hcu (by decide)) hb9)
          have HG9 := Lib.hid ((HG8.out.only HST.out.2 (fun e => HNG.out e.symm)).later hb9)
          have HH9 := Lib.hid ((HH8.out.only HST.out.2 (fun e => HNH.out e.symm)).later hb9)
          have HU9 := Lib.hid (HST.out.1.later hb9)
          have HB9 := Lib.hid (Kit.step (HB8.out.trans (Only.below HST.out.2 HLB.out HB8.out.size)) hb9)
          rw [hw9]
          clear hw9 hb9 hcu hcw hfw hcy
          go_wp2_with fail
          go_roundw
          case rel => exact ⟨k + 1, by omega, by go_num, W.set p xx, z ++ [(p : Int)], by rw [List.length_set]; exact HWL.out, HO9.out, HG9.out, HH9.out, HU9.out, HB9.out, by simp; omega, List.nodup_append.2 ⟨HND.out, by simp, fun a ha b hb => by
              rw [List.mem_singleton] at hb
              rw [hb]
              exact fun e => HPZ.out (e ▸ ha)⟩, fun a ha => by
              rcases List.mem_append.1 ha with h | h
              · exact HZR.out a h
              · rw [List.mem_singleton] at h
                rw [h]
                have := HPL.out
                omega, fun a ha hn => by
              rw [co_set, if_neg (fun h => hn (by rw [h.1]; simp))]
              exact HEQ.out a ha (fun h => hn (by simp [h]))⟩
          case measure => simp [intOf]; omega
      · obtain rfl : k = es.length := by omega
        obtain ⟨op, cp, rfl, hri⟩ := owns_ints hown (by simp)
        have HG0 := Lib.hid hbg
        have HH0 : Hid (BRow wr gh N (fun p => decide (p ∈ ([] : List Nat)))) := Lib.hid (hbh.cong fun i _ => by simp)
        have HU0 := Lib.hid hbu
        have HB0 := Lib.hid hb
        have HRI := Lib.hid hown
        have HND := Lib.hid hnd
        have HZR := Lib.hid hzr
        have HEQ := Lib.hid heq
        have HWL := Lib.hid hWl
        have HZK := Lib.hid hzk
        have hzl : z.length ≤ 32 := by omega
        clear hown hri hbg hbh hbu hb hnd hzr heq hWl hzk
        go_wp2_with fail
        go_loopw [17, 18, 105] (fun _ _ iv wr2 => Pl2At V z op cp zs.length N gg gh g cap w iv wr2) (fun _ _ iv _ => zs.length - (intOf iv).toNat)
        case atStart => exact ⟨0, Nat.zero_le _, rfl, W, [], HWL.out, HRI.out, HG0.out, HH0.out, HU0.out, HB0.out, Nat.le_refl _, List.nodup_nil, fun p hp => (by cases hp), fun p hp hz _ => HEQ.out p hp hz⟩
        case round =>
          rename World => W2
          rename List UInt8 => W0
          clear HG0 HH0 HU0 HB0 HRI HEQ HWL
          obtain ⟨k, hk, rfl, W, H, hWl, hri, hbg, hbh, hbu, hb, hHk, hnd, hmem, heq⟩ := hrel
          by_cases hkz : k < zs.length
          · obtain ⟨b, off, rfl, hblt, hcells⟩ := (HZ.out.later hb).cells (by omega)
            obtain ⟨hcq, hcb⟩ := hcells k hkz
            have hcb2 : W2.cell? ⟨b, off + k * 2 + 1, none⟩ = _ := hcb
            have hqw := HZ.out.wf k
            obtain ⟨q, hq⟩ : ∃ q, (zs.getD k (0, 0)).1 = q := ⟨_, rfl⟩
            obtain ⟨y, hy⟩ : ∃ y, (zs.getD k (0, 0)).2 = y := ⟨_, rfl⟩
            rw [hq] at hcq hqw
            rw [hy] at hcb hcb2
            obtain ⟨u, hu⟩ : ∃ u, (q % 18446744073709551616).toNat = u := ⟨_, rfl⟩
            have hwu : IntKind.u64.wrap q = (u : Int) := by rw [wrap_u644, hu]
            have hwn : IntKind.u64.wrap (N : Int) = (N : Int) := by rw [wrap_u644]; omega
            obtain ⟨p, hp⟩ : ∃ p, u % N = p := ⟨_, rfl⟩
            have hpl : p < N := by rw [← hp]; exact Nat.mod_lt _ (by omega)
            have htm : Int.tmod (u : Int) (N : Int) = (p : Int) := by rw [← hp]; rfl
            have hwp : IntKind.u64.wrap (p : Int) = (p : Int) := by rw [wrap_u644]; omega
            have hwp2 : IntKind.i64.wrap (p : Int) = (p : Int) := by rw [IntKind.wrap_i64]; omega
            have hyl := UInt8.toNat_lt y
            have hk0 : (0 : Int) ≤ (k : Int) := by omega
            have hk1 : (k : Int) < (zs.length : Int) := by omega
            have hN0 : ((N : Int) == 0) = false := beq_false_of_ne (by omega)
            have hN00 : ¬ (N : Int) = 0 := by omega
            have hp0 : (0 : Int) ≤ (p : Int) := by omega
            have hp1 : (p : Int) < (N : Int) := by omega
            obtain ⟨w5, hw5⟩ : ∃ w5, W2.alloc (.cells #[.int .i64 q, .int .u8 (y.toNat : Int)] 57) = w5 := ⟨_, rfl⟩
            have hb5 : Below W2.heap.size W2 w5 := by rw [← hw5]; exact (Below.refl _ _).alloc (Nat.le_refl _) _
            have hQ5 : w5.heap[W2.heap.size]? = some (.cells #[.int .i64 q, .int .u8 (y.toNat : Int)] 57 (0, 0)) := by rw [← hw5]; exact World.alloc_heap_new _ _
            have hg5 := hbg.later hb5
            have hh5 := hbh.later hb5
            have hu5 := hbu.later hb5
            have HQ5 := Lib.hid hQ5
            have HG5 := Lib.hid hg5
            have HH5 := Lib.hid hh5
            have HU5 := Lib.hid hu5
            have HB5 := Lib.hid (Kit.step hb hb5)
            have HWL := Lib.hid hWl
            have HPL := Lib.hid hpl
            have hpl' := hpl
            have HW5 := Lib.hid hw5
            have HQR : Hid (W2.heap.size < w5.heap.size) := Lib.hid (Array.getElem?_eq_some_iff.1 hQ5).1
            have hri5 := own_laterI hri hb5
            have hcg := hg5.cell p hpl'
            have hcg' := hbg.cell p hpl'
            have hch := hh5.cell p hpl'
            have hch' := hbh.cell p hpl'
            have hfh := hh5.frozen p
            have hfh' := hbh.frozen p
            have HRI5 := Lib.hid hri5
            have HND2 := Lib.hid hnd
            have HMEM := Lib.hid hmem
            have HEQ := Lib.hid heq
            rw [← hw5] at hcg hch hfh
            clear hcells hri hri5 hbg hbh hbu hb hnd hmem heq hWl hq hy hu hp hg5 hh5 hu5 hb5 hQ5 hw5 hpl
            by_cases hpz : (p : Int) ∈ z
            · rw [decide_eq_true hpz] at hcg hcg'
              clear hpz hch hch'
              go_wp2_with fail
              rw [HW5.out]
              go_roundw
              case rel => exact ⟨k + 1, by omega, by go_num, W, H, HWL.out, HRI5.out, HG5.out, HH5.out, HU5.out, HB5.out, by omega, HND2.out, HMEM.out, HEQ.out⟩
              case measure => simp [intOf]; omega
            · rw [decide_eq_false hpz] at hcg hcg'
              have HPZ := Lib.hid hpz
              clear hpz
              by_cases hpH : p ∈ H
              · rw [decide_eq_true hpH] at hch hch'
                clear hpH
                go_wp2_with fail
                rw [HW5.out]
                go_roundw
                case rel => exact ⟨k + 1, by omega, by go_num, W, H, HWL.out, HRI5.out, HG5.out, HH5.out, HU5.out, HB5.out, by omega, HND2.out, HMEM.out, HEQ.out⟩
                case measure => simp [intOf]; omega
              · rw [decide_eq_false hpH] at hch hch'
                have HPH := Lib.hid hpH
                clear hpH
                by_cases hy0 : y = 0
                · have hyb : ((y.toNat : Int) != 0) = false := by rw [hy0]; rfl
                  clear hy0
                  go_wp2_with fail
                  rw [HW5.out]
                  go_roundw
                  case rel => exact ⟨k + 1, by omega, by go_num, W, H, HWL.out, HRI5.out, HG5.out, HH5.out, HU5.out, HB5.out, by omega, HND2.out, HMEM.out, HEQ.out⟩
                  case measure => simp [intOf]; omega
                · have hyn : ¬ (y.toNat : Int) = 0 := fun h => hy0 (UInt8.toNat_inj.1 (by simpa using h))
                  have hyb : ((y.toNat : Int) != 0) = true := by rw [bne_iff_ne]; exact hyn
                  have HSTP := Lib.hid (pl2_step HWL.out HMEM.out HEQ.out HPL.out HPZ.out HPH.out hy0)
                  obtain ⟨w6, hw6⟩ : ∃ w6, w5.setCell ⟨gh, p, none⟩ (.bool true) = w6 := ⟨_, rfl⟩
                  have hst := HH5.out.store p true
                  rw [hw6] at hst
                  have hh6 : BRow w6 gh N (fun q => decide (q ∈ p :: H)) := hst.1.cong fun i _ => by
                    by_cases e : i = p
                    · simp [e]
                    · simp [e]
                  have hg6 := HG5.out.only hst.2 HNE.out
                  have hu6 : Buf w6 g cap W := buf_same4 HU5.out (World.grownBy.block hst.2 g HU5.out.lt (fun e => HNH.out (by cases e; rfl)))
                  have hri6 := own_only HRI5.out hst.2 (show w5.heap[gh]? = some (.cells _ _ _) from HH5.out) (by decide)
                  have hq6 : w6.heap[W2.heap.size]? = some (.cells #[.int .i64 q, .int .u8 (y.toNat : Int)] 57 (0, 0)) := by
                    rw [World.grownBy.block hst.2 W2.heap.size HQR.out (fun e => by
                      have h1 := HQ5.out
                      have h2 : w5.heap[gh]? = _ := HH5.out
                      cases e
                      rw [h1] at h2
                      injection h2 with h2
                      injection h2 with _ h2 _
                      exact absurd h2 (by decide))]
                    exact HQ5.out
                  have hb6 : Below w.heap.size w w6 := HB5.out.trans (Only.below hst.2 HLH.out HB5.out.size)
                  have hcy : w6.cell? ⟨W2.heap.size, 1, none⟩ = some (.int .u8 (y.toNat : Int)) := by rw [cell_of_row _ _ 1 _ _ _ hq6]; rfl
                  have hcw := hu6.cell p (by rw [HWL.out]; exact hpl')
                  have hfw := hu6.frozen p
                  have HST := Lib.hid (hu6.store p (co W p ^^^ y))
                  have HG6 := Lib.hid hg6
                  have HH6 := Lib.hid hh6
                  have HU6 := Lib.hid hu6
                  have HRI6 := Lib.hid hri6
                  have HB6 := Lib.hid hb6
                  have HW6 := Lib.hid hw6
                  have hx := u8c (co W p) y
                  obtain ⟨xx, hxx⟩ : ∃ xx, co W p ^^^ y = xx := ⟨_, rfl⟩
                  obtain ⟨x, hxe⟩ : ∃ x, co W p = x := ⟨_, rfl⟩
                  rw [hxx] at hx HST HSTP
                  rw [hxe] at hx hcw
                  have hxl := UInt8.toNat_lt x
                  have hxxl := UInt8.toNat_lt xx
                  clear hy0 hst hw6 hg6 hh6 hu6 hri6 hq6 hb6 hxx hxe
                  go_wp2_with fail
                  rw [HW5.out, HW6.out]
                  clear hcg hcg' hch hch' hfh hfh'
                  go_region
                  obtain ⟨w9, hw9⟩ : ∃ w9, (w6.setCell ⟨g, p, none⟩ (.int .u8 (xx.toNat : Int))).drew = w9 := ⟨_, rfl⟩
                  have hb9 : Below (w6.setCell ⟨g, p, none⟩ (.int .u8 (xx.toNat : Int))).heap.size (w6.setCell ⟨g, p, none⟩ (.int .u8 (xx.toNat : Int))) w9 := by rw [← hw9]; exact Kit.dn' _ 1
                  obtain ⟨cu, hcu⟩ := HU6.out.cells
                  have HRI9 := Lib.hid (own_laterI (own_only HRI6.out HST.out.2 hcu (by decide)) hb9)
                  have HG9 := Lib.hid ((HG6.out.only HST.out.2 (fun e => HNG.out e.symm)).later hb9)
                  have HH9 := Lib.hid ((HH6.out.only HST.out.2 (fun e => HNH.out e.symm)).later hb9)
                  have HU9 := Lib.hid (HST.out.1.later hb9)
                  have HB9 := Lib.hid (Kit.step (HB6.out.trans (Only.below HST.out.2 HLB.out HB6.out.size)) hb9)
                  rw [hw9]
                  clear hw9 hb9 hcw hfw hcy hcu
                  go_wp2_with fail
                  go_roundw
                  case rel => exact ⟨k + 1, by omega, by go_num, W.set p xx, p :: H, by rw [List.length_set]; exact HWL.out, HRI9.out, HG9.out, HH9.out, HU9.out, HB9.out, by simp; omega, List.nodup_cons.2 ⟨HPH.out, HND2.out⟩, HSTP.out.1, HSTP.out.2⟩
                  case measure => simp [intOf]; omega
          · obtain rfl : k = zs.length := by omega
            have hok : EOk N z := ⟨fun k hk => HZR.out _ (by unfold ci; rw [List.getD_eq_getElem?_getD, List.getElem?_eq_getElem hk]; exact List.getElem_mem hk), fun i j hj hi h => by
              unfold ci at h
              rw [List.getD_eq_getElem?_getD, List.getD_eq_getElem?_getD, List.getElem?_eq_getElem hi, List.getElem?_eq_getElem (by omega)] at h
              have := (List.getElem_inj HND.out).1 h
              omega, hzl⟩
            have hch : Chg V W N z H := ⟨HVC.out, HVN.out, hWl, hN1, hok, hnd, fun p hp => ⟨(hmem p hp).1, (hmem p hp).2.2, (hmem p hp).2.1⟩, fun p hp h hz => by
              by_cases hh : p ∈ H
              · exact hh
              · exact absurd (heq p hp hz hh) h, by have := HZK.out; omega⟩
            have HCH := Lib.hid hch
            have hof := of_any W (some ⟨g, 0, none⟩) cap W2 hbu.row ⟨by omega, by omega⟩
            rw [hWl] at hof
            obtain ⟨s, hs⟩ : ∃ s, synL W = s := ⟨_, rfl⟩
            rw [hs] at hof
            have hsl : s.length = 32 := by rw [← hs]; simp
            obtain ⟨CS, hCS⟩ : ∃ CS, (bytesV s).toArray = CS := ⟨_, rfl⟩
            have hcs1 := one_cell s
            rw [hCS] at hof hcs1
            have HOF := Lib.hid hof
            have HSZ := Lib.hid (csyn_size hsl)
            rw [hCS] at HSZ
            have HCS1 := Lib.hid hcs1
            have HZS : Hid (Z.size = CS.size) := Lib.hid (by rw [hZs, ← hCS]; simp [hsl])
            have HS := Lib.hid hs
            have HSL := Lib.hid hsl
            have HCS := Lib.hid hCS
            have HBX := Lib.hid hb
            have HGX := Lib.hid hbg
            have HHX := Lib.hid hbh
            have HRX := Lib.hid hri
            clear hok hch hof hs hsl hCS hcs1 hri hbg hbh hbu hb hnd hmem heq hWl
            go_wp2_with fail
            refine HOF.out.mono ?_; rintro e w8 ⟨rfl, hb⟩
            have HB8 := Lib.hid (Kit.step HBX.out hb)
            have HBE8 := Lib.hid hb
            have HG9' : Hid ((w8.alloc (.cells Z 36)).heap[w8.heap.size]? = some (.cells Z 36 (0, 0))) := Lib.hid (World.alloc_heap_new _ _)
            obtain ⟨w10, hw10⟩ : ∃ w10, (w8.alloc (.cells Z 36)).setRow w8.heap.size CS = w10 := ⟨_, rfl⟩
            have HG10 : Hid (w10.heap[w8.heap.size]? = some (.cells CS 36 (0, 0))) := Lib.hid (by rw [← hw10]; exact setRow_heap _ _ _ _ _ _ HG9'.out)
            have HBE10 : Hid (Below w8.heap.size w8 w10) := Lib.hid (by rw [← hw10]; exact ((Below.refl _ _).alloc (Nat.le_refl _) _).trans (below_setRow (Nat.le_refl _)))
            have HB10 := Lib.hid (Kit.step HB8.out HBE10.out)
            have hbe := Kit.step HBE8.out HBE10.out
            have HGY := Lib.hid (HGX.out.later hbe)
            have HHY := Lib.hid (HHX.out.later hbe)
            have hri := owns_ints (own_laterI HRX.out hbe) rfl
            obtain ⟨op', cp', he', hri⟩ := hri
            cases he'
            have HRY := Lib.hid hri
            have HW10 := Lib.hid hw10
            clear hb hw10 HOF hbe hri
            go_wp2_with (first | (refine wpList_store_row rfl 36 (.tmp 19) (.tmp 150) rfl w8.heap.size CS rfl rfl 36 Z HG9'.out HSZ.out HZS.out HCS1.out ?_; rw [HW10.out]) | refine wpList_load_row rfl 36 (.tmp 19) rfl w8.heap.size rfl 36 CS (0, 0) _ HG10.out csyn_under rfl HSZ.out ?_)
            have hfi := cfi_any s z N cp op w10 (fun _ => ⟨0, 0, none⟩) HSL.out HRY.out hN2 hN1 (by omega) (fun h => absurd HCH.out.ok h) (fun ⟨C, L, h1, h2⟩ => by
              rw [← HS.out] at h1
              have h3 := (HCH.out.reg h1).1
              have h4 := HCH.out.len h1
              have := HCH.out.few
              omega) CS HCS.out
            refine hfi.mono ?_
            clear hfi
            rintro e w11 ⟨hb, ⟨⟨k, hk, hkb⟩, _⟩ | ⟨_, ⟨⟨i, j, hj, hi, hij⟩, _⟩ | ⟨_, ⟨h, _⟩ | ⟨_, C, L, hrf, ⟨h2, _⟩ | ⟨h2, h3, x1, x2, rfl, hx1, hx2⟩⟩⟩⟩⟩
            · exfalso
              have := HCH.out.ok.1 k hk
              omega
            · exact absurd hij (HCH.out.ok.2.1 i j hj hi)
            · omega
            · exfalso
              rw [← HS.out] at hrf
              have h3 := (HCH.out.reg hrf).1
              have h4 := HCH.out.len hrf
              have := HCH.out.few
              omega
            rw [← HS.out] at hrf
            have hra := fun p hp => rootB_all HCH.out hrf p hp
            obtain ⟨M, hM⟩ : ∃ M, ertL C N z = M := ⟨_, rfl⟩
            simp only [hM] at hra hx1
            obtain ⟨V2, hV2⟩ : ∃ V2, evaL s C N z = V2 := ⟨_, rfl⟩
            rw [hV2] at hx2
            obtain ⟨o6, c6, rfl, hx1⟩ := hx1
            obtain ⟨o9, c9, rfl, hx2⟩ := hx2
            have HRA := Lib.hid hra
            obtain ⟨w12, hw12⟩ : ∃ w12, w11.alloc (.cells #[.int .i64 (L : Int), .slice o6 M.length c6, .slice o9 V2.length c9] 46) = w12 := ⟨_, rfl⟩
            have hb12 : Below w11.heap.size w11 w12 := by rw [← hw12]; exact (Below.refl _ _).alloc (Nat.le_refl _) _
            have HF12 : Hid (w12.heap[w11.heap.size]? = some (.cells #[.int .i64 (L : Int), .slice o6 M.length c6, .slice o9 V2.length c9] 46 (0, 0))) := Lib.hid (by rw [← hw12]; exact World.alloc_heap_new _ _)
            have hbe := Kit.step hb hb12
            have HB12 := Lib.hid (Kit.step HB10.out hbe)
            have HG12 := Lib.hid (HGY.out.later hbe)
            have HH12 := Lib.hid (HHY.out.later hbe)
            have HX12 := Lib.hid (hx1.later hb12)
            have HW12 := Lib.hid hw12
            have hCF : ∀ v, Below w12.heap.size w12 v → v.cell? ⟨w11.heap.size, 1, none⟩ = some (.slice o6 M.length c6) := fun v hv => by
              have : v.heap[w11.heap.size]? = some (.cells #[.int .i64 (L : Int), .slice o6 M.length c6, .slice o9 V2.length c9] 46 (0, 0)) := by rw [hv.block _ (Array.getElem?_eq_some_iff.1 HF12.out).1]; exact HF12.out
              rw [cell_of_row _ _ 1 _ _ _ this]; rfl
            have HCF := Lib.hid hCF
            clear hb hrf hra hM hV2 hx1 hx2 hw12 hb12 hbe h2 h3 hCF HG10
            go_wp2_with fail
            rw [HW12.out]
            obtain ⟨F, hF⟩ : ∃ F, w11.heap.size = F := ⟨_, rfl⟩
            rw [hF] at HCF ⊢
            clear hF
            clear hzs
            go_loopw [21, 22, 23, 24, 25] (fun pv _ _ _ _ wr3 => Pl3At N w12 pv wr3) (fun pv _ _ _ _ _ => N - (intOf pv).toNat)
            case atStart => exact ⟨0, Nat.zero_le _, rfl, Below.refl _ _⟩
            case round =>
              rename World => W3
              obtain ⟨p, hp, rfl, hb⟩ := hrel
              have HB3 := Lib.hid hb
              clear hb
              by_cases hpN : p < N
              · have hpi : (p : Int) < (N : Int) := by omega
                have HPW := Lib.hid (rplace_any N p hpN hN1 W3)
                have HRP := Lib.hid (HRA.out p hpN)
                obtain ⟨x, hx⟩ : ∃ x, Gf.al (N - 1 - p) = x := ⟨_, rfl⟩
                rw [hx] at HPW HRP
                have hxl := UInt8.toNat_lt x
                clear hx
                go_wp2_with fail
                refine HPW.out.mono ?_; rintro e w13 ⟨rfl, rfl⟩
                go_wp2_with fail
                go_loopw [23, 24, 25] (fun rv yv _ wr4 => Pl4At x M w13 rv yv wr4) (fun _ yv _ _ => 256 - (intOf yv).toNat)
                case atStart => exact ⟨0, Nat.zero_le _, rfl, rfl, Below.refl _ _⟩
                case round =>
                  rename World => W4
                  obtain ⟨k, hk, rfl, rfl, hb⟩ := hrel
                  have HB4' := Lib.hid (Kit.step HB3.out hb)
                  have HB4i := Lib.hid hb
                  obtain ⟨j, hj⟩ : ∃ j, k + 1 = j := ⟨_, rfl⟩
                  rw [hj]
                  by_cases hk255 : k < 255
                  · have hjd : decide ((j : Int) < 256) = true := decide_eq_true (by omega)
                    have hji : (j : Int) < 256 := by omega
                    obtain ⟨Y, hY⟩ : ∃ Y, UInt8.ofNat (k + 1) = Y := ⟨_, rfl⟩
                    have hYt : (Y.toNat : Int) = (j : Int) := by rw [← hY, UInt8.toNat_ofNat']; omega
                    have hw8 : IntKind.u8.wrap (j : Int) = (j : Int) := by
                      have : IntKind.u8.wrap (j : Int) = (j : Int) % 256 := by simp [IntKind.wrap, IntKind.bits, IntKind.signed]
                      rw [this]; omega
                    have HSU := Lib.hid (rootB_succ x M k)
                    rw [hY] at HSU
                    obtain ⟨w14, hw14⟩ : ∃ w14, W4.alloc (.cells (bytesV [1, x]).toArray 5) = w14 := ⟨_, rfl⟩
                    have hb14 : Below W4.heap.size W4 w14 := by rw [← hw14]; exact (Below.refl _ _).alloc (Nat.le_refl _) _
                    have hr14 : RowIs w14 (some ⟨W4.heap.size, 0, none⟩) (bytesV [1, x]) 2 := by rw [← hw14]; exact row_cells (World.alloc_heap_new _ _) (by unfold maxLen; simp)
                    have hev1 := reval_any [1, x] Y _ 2 w14 hr14
                    have hev2 := reval_any M Y o6 c6 w14 (HX12.out.later (Kit.step HB4'.out hb14))
                    have hcf := HCF.out w14 (Kit.step HB4'.out hb14)
                    rw [hYt] at hev1 hev2
                    have H2 := ev_two x Y
                    obtain ⟨v1, hv1⟩ : ∃ v1, evL [1, x] Y = v1 := ⟨_, rfl⟩
                    obtain ⟨v2, hv2⟩ : ∃ v2, evL M Y = v2 := ⟨_, rfl⟩
                    rw [hv1] at hev1 H2
                    rw [hv2] at hev2 HSU
                    have HE1 := Lib.hid hev1
                    have HE2 := Lib.hid hev2
                    have HW14 := Lib.hid hw14
                    have HB14 := Lib.hid (Kit.step HB4i.out hb14)
                    have HJ := Lib.hid hj
                    have hv1l := UInt8.toNat_lt v1
                    have hv2l := UInt8.toNat_lt v2
                    obtain ⟨I, hI⟩ : ∃ I, decide (Gf.gm x Y = 1) = I := ⟨_, rfl⟩
                    obtain ⟨E, hE2⟩ : ∃ E, decide (v2 = 0) = E := ⟨_, rfl⟩
                    obtain ⟨RB, hRB⟩ : ∃ RB, rootB x M k = RB := ⟨_, rfl⟩
                    rw [hI, hE2, hRB] at HSU
                    rw [hRB]
                    have hb1 : ((v1.toNat : Int) == 0) = I := by
                      rw [← hI, ← decide_eq_decide.2 H2]
                      by_cases h0 : v1 = 0
                      · rw [decide_eq_true h0]; simp [h0]
                      · rw [decide_eq_false h0]
                        exact beq_false_of_ne (fun h => h0 (UInt8.toNat_inj.1 (by simpa using h)))
                    have hb2 : ((v2.toNat : Int) == 0) = E := by
                      rw [← hE2]
                      by_cases h0 : v2 = 0
                      · rw [decide_eq_true h0]; simp [h0]
                      · rw [decide_eq_false h0]
                        exact beq_false_of_ne (fun h => h0 (UInt8.toNat_inj.1 (by simpa using h)))
                    clear hb hj hY hYt hw14 hb14 hr14 hev1 hev2 H2 hv1 hv2 hI hE2 hRB
                    cases RB <;> cases I <;> cases E
                    all_goals
                      go_wp2_with fail
                      rw [show W4.alloc (.cells #[.int .u8 1, .int .u8 (x.toNat : Int)] 5) = w14 from HW14.out]
                      refine HE1.out.mono ?_; rintro e w15 ⟨rfl, rfl⟩
                      first
                      | (go_wp2_with fail
                         go_roundw
                         case rel => exact ⟨k + 1, by omega, by have := HJ.out; go_num, by rw [HSU.out]; rfl, HB14.out⟩
                         case measure => have := HJ.out; simp [intOf]; omega)
                      | (go_wp2_with fail
                         refine HE2.out.mono ?_; rintro e w16 ⟨rfl, rfl⟩
                         go_wp2_with fail
                         go_roundw
                         case rel => exact ⟨k + 1, by omega, by have := HJ.out; go_num, by rw [HSU.out]; rfl, HB14.out⟩
                         case measure => have := HJ.out; simp [intOf]; omega)
                  · obtain rfl : k = 255 := by omega
                    have hjd : decide ((j : Int) < 256) = false := decide_eq_false (by omega)
                    have hji : ¬ (j : Int) < 256 := by omega
                    have hcg := (HG12.out.later HB4'.out).cell p hpN
                    have hch := (HH12.out.later HB4'.out).cell p hpN
                    have hp0 : (0 : Int) ≤ (p : Int) := by omega
                    obtain ⟨GB, hGB⟩ : ∃ GB, decide ((p : Int) ∈ z) = GB := ⟨_, rfl⟩
                    obtain ⟨HB, hHB⟩ : ∃ HB, decide (p ∈ H) = HB := ⟨_, rfl⟩
                    have hrp := HRP.out
                    rw [hGB] at hcg hrp
                    rw [hHB] at hch hrp
                    rw [hrp]
                    clear hb hj hrp hGB hHB
                    cases GB <;> cases HB
                    all_goals
                      go_wp2_with fail
                      go_roundw
                      case rel => exact ⟨p + 1, by omega, by go_num, HB4'.out⟩
                      case measure => simp [intOf]; omega
              · obtain rfl : p = N := by omega
                go_wp2_with fail
                go_ret
                exact ⟨rfl, Kit.step HB12.out HB3.out⟩
set_option maxRecDepth 100000 in
set_option maxHeartbeats 4000000 in
theorem lpl_long (m k l : Nat) (o oe oz : Option Addr) (c ce cz : Nat) (w : World) (h : 223 < m ∨ 32 < k ∨ 32 < 2 * l + k) (hm : m ≤ 9223372036854775807) (hk : k ≤ 9223372036854775807) (hl : l ≤ 140737488355328) :
    Calls Tryd.prog 6 #[.slice o m c, .slice oe k ce, .slice oz l cz] w fun e w' => e = .returned (.bool true) ∧ Below w.heap.size w w' := by
  by_cases h1 : 223 < m
  · have hd1 : decide ((223 : Int) < (m : Int)) = true := decide_eq_true (by omega)
    clear h h1
    go_enter Tryd.func6, Tryd.ntmps6
    go_wp2_with fail
    refine (alive4_any _).mono ?_; rintro e w1 ⟨rfl, hb⟩
    have HB := Lib.hid hb
    clear hb
    go_wp2_with fail
    go_ret
    exact ⟨rfl, HB.out⟩
  · have hd1 : decide ((223 : Int) < (m : Int)) = false := decide_eq_false (by omega)
    by_cases h2 : 32 < k
    · have hd2 : decide ((32 : Int) < (k : Int)) = true := decide_eq_true (by omega)
      clear h h1 h2
      go_enter Tryd.func6, Tryd.ntmps6
      go_wp2_with fail
      refine (alive4_any _).mono ?_; rintro e w1 ⟨rfl, hb⟩
      have HB := Lib.hid hb
      clear hb
      go_wp2_with fail
      go_ret
      exact ⟨rfl, HB.out⟩
    · have hd2 : decide ((32 : Int) < (k : Int)) = false := decide_eq_false (by omega)
      have hw2 : IntKind.i64.wrap (2 * (l : Int)) = 2 * (l : Int) := by rw [IntKind.wrap_i64]; omega
      have hw3 : IntKind.i64.wrap (2 * (l : Int) + (k : Int)) = 2 * (l : Int) + (k : Int) := by rw [IntKind.wrap_i64]; omega
      have hd3 : decide ((32 : Int) < 2 * (l : Int) + (k : Int)) = true := decide_eq_true (by omega)
      clear h h1 h2
      go_enter Tryd.func6, Tryd.ntmps6
      go_wp2_with fail
      refine (alive4_any _).mono ?_; rintro e w1 ⟨rfl, hb⟩
      have HB := Lib.hid hb
      clear hb
      go_wp2_with fail
      go_ret
      exact ⟨rfl, HB.out⟩
set_option maxRecDepth 100000 in
set_option maxHeartbeats 4000000 in
theorem lpl_zero (k l : Nat) (o oe oz : Option Addr) (c ce cz : Nat) (w : World) (p : Addr) (hE : w.cell? ⟨0, 0, none⟩ = some (.iface 122 (.pointer (some p)))) (hk : 2 * l + k ≤ 32) :
    Calls Tryd.prog 6 #[.slice o 0 c, .slice oe k ce, .slice oz l cz] w fun e w' => e = .returned (.bool true) ∧ Below w.heap.size w w' := by
  have hd2 : decide ((32 : Int) < (k : Int)) = false := decide_eq_false (by omega)
  have hw2 : IntKind.i64.wrap (2 * (l : Int)) = 2 * (l : Int) := by rw [IntKind.wrap_i64]; omega
  have hw3 : IntKind.i64.wrap (2 * (l : Int) + (k : Int)) = 2 * (l : Int) + (k : Int) := by rw [IntKind.wrap_i64]; omega
  have hd3 : decide ((32 : Int) < 2 * (l : Int) + (k : Int)) = false := decide_eq_false (by omega)
  have HE := Lib.hid hE
  clear hE
  go_enter Tryd.func6, Tryd.ntmps6
  go_wp2_with fail
  refine (alive4_any _).mono ?_; rintro e w1 ⟨rfl, hb⟩
  have HB := Lib.hid hb
  have HEN := Lib.hid (encode_size 0 c o w1 p (glob_later HE.out hb) (.inl (by omega)) (by omega))
  clear hb
  go_wp2_with fail
  refine HEN.out.mono ?_; rintro e w2 ⟨rfl, hb⟩
  have HB2 := Lib.hid (Kit.step HB.out hb)
  clear hb HEN
  go_wp2_with fail
  go_ret
  exact ⟨rfl, HB2.out⟩
theorem lpl_walk (d : List UInt8) (es zs : List (Int × UInt8)) (o oe oz : Option Addr) (c ce cz : Nat) (w : World) (p : Addr) (hE : w.cell? ⟨0, 0, none⟩ = some (.iface 122 (.pointer (some p)))) (hP : RowIs w o (bytesV d) c) (hA : PairsIs w oe es ce) (hZ : PairsIs w oz zs cz) (hl : zs.length ≤ 140737488355328) :
    Calls Tryd.prog 6 #[.slice o d.length c, .slice oe es.length ce, .slice oz zs.length cz] w fun e w' => e = .returned (.bool true) ∧ Below w.heap.size w w' := by
  have h1 := hP.le
  have h2 := hP.cap
  have h3 := hA.le
  have h4 := hA.cap
  simp only [bytesV_length] at h1
  unfold maxLen at h2 h4
  by_cases h : 223 < d.length ∨ 32 < es.length ∨ 32 < 2 * zs.length + es.length
  · exact lpl_long _ _ _ o oe oz c ce cz w h (by omega) (by omega) hl
  · by_cases h0 : d.length = 0
    · rw [h0]
      exact lpl_zero _ _ o oe oz c ce cz w p hE (by omega)
    · exact lpl_main _ czero_syn (by simp [zsyn]) d es zs o oe oz c ce cz w hP hA hZ (by omega) (by omega) (by omega)
end Go.Proofs.YtoefhhkemljjdaaDoor
