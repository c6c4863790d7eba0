/- A key's stream: numbers, and the code's Block and Number. -/
import Derived.Test.YtaanjlbkncfnbaaDoorSo
namespace Go.Proofs.YtaanjlbkncfnbaaDoor
open Go.RowKit
set_option linter.unusedVariables false
set_option linter.unusedSimpArgs false
theorem sran_any (n : Int) (w : World) : Calls Tryd.prog 19 #[.int .i64 n] w fun e w' => e = .returned (.bool (Da.inR n)) ∧ w' = w := by
  by_cases h1 : 0 ≤ n
  · have hd1 : decide (n ≥ 0) = true := by simp; omega
    by_cases h2 : n ≤ 1099511627776
    · have hd2 : decide (n ≤ 1099511627776) = true := by simp; omega
      have hr : Da.inR n = true := by simp [Da.inR, h1, h2]
      rw [hr]
      go_enter Tryd.func19, Tryd.ntmps19
      go_wp2_with fail
      go_ret
      exact ⟨rfl, rfl⟩
    · have hd2 : decide (n ≤ 1099511627776) = false := by simp; omega
      have hr : Da.inR n = false := by simp [Da.inR, h2]
      rw [hr]
      go_enter Tryd.func19, Tryd.ntmps19
      go_wp2_with fail
      go_ret
      exact ⟨rfl, rfl⟩
  · have hd1 : decide (n ≥ 0) = false := by simp; omega
    have hr : Da.inR n = false := by simp [Da.inR, h1]
    rw [hr]
    go_enter Tryd.func19, Tryd.ntmps19
    go_wp2_with fail
    go_ret
    exact ⟨rfl, rfl⟩
theorem or_u64 (p q : Nat) (hp : p < 2 ^ 64) (hq : q < 2 ^ 64) : bits .or .u64 (p : Int) (q : Int) = ((p ||| q : Nat) : Int) := by
  have hx : p ||| q < 2 ^ 64 := Nat.or_lt_two_pow hp hq
  have hp' : p % 2 ^ IntKind.u64.bits = p := Nat.mod_eq_of_lt (by show p < 2 ^ 64; omega)
  have hq' : q % 2 ^ IntKind.u64.bits = q := Nat.mod_eq_of_lt (by show q < 2 ^ 64; omega)
  simp only [bits, BitVec.ofInt_natCast, BitVec.toNat_or, BitVec.toNat_ofNat, hp', hq']
  rw [IntKind.wrap_u64]
  omega
theorem or_add (p q : Nat) (hq : q < 256) : p * 256 ||| q = p * 256 + q := by
  have := Nat.shiftLeft_add_eq_or_of_lt (i := 8) (b := q) (by omega) p
  rw [Nat.shiftLeft_eq] at this
  exact this.symm
def SnAt (l : List UInt8) (w : World) (s i : Value) (wr : World) : Prop :=
  ∃ j : Nat, j ≤ 8 ∧ i = .int .i64 j ∧ s = .int .u64 (Da.nbe (l.take j) : Nat) ∧ Below w.heap.size w wr
set_option maxRecDepth 100000 in
theorem snum_any (k : List UInt8) (n : Int) (p : Nat) (w : World) (hA : Arr w p 74 (bytesV (Da.fil k))) (hV : Cds w) :
    Calls Tryd.prog 22 #[.agg #[.pointer (some ⟨p, 0, none⟩)], .int .i64 n] w fun e w' => e = .returned (.int .u64 (Da.sn k n : Nat)) ∧ Below w.heap.size w w' := by
  have hmf := @makes Tryd.prog
  obtain ⟨b, hbe⟩ : ∃ b, w.heap.size = b := ⟨_, rfl⟩
  obtain ⟨W1, hW1⟩ : ∃ W1, w.alloc (.cells #[.pointer (some ⟨p, 0, none⟩)] 51) = W1 := ⟨_, rfl⟩
  have hb1 : Below w.heap.size w W1 := by rw [← hW1]; exact (Below.refl _ _).alloc (Nat.le_refl _) _
  have hA1 : Arr W1 b 51 [.pointer (some ⟨p, 0, none⟩)] := by rw [← hW1, ← hbe]; exact Arr.made _ _ _
  have HA1 : Hid (W1.heap[b]? = some (.cells #[.pointer (some ⟨p, 0, none⟩)] 51 (0, 0))) := Lib.hid hA1
  have HB1 := Lib.hid hb1
  have HE := Lib.hid hbe
  have HW1 := Lib.hid hW1
  have SB := Lib.hid (sblk_any k n p W1 (hA.later hb1 hA.lt) (hV.later hb1))
  clear hb1 hA1 hbe hW1 hA hV
  go_enter Tryd.func22, Tryd.ntmps22
  go_wp2_with (first | rw [HW1.out, HE.out] | refine wpList_load_row rfl 51 (.tmp 2) rfl b rfl 51 #[.pointer (some ⟨p, 0, none⟩)] (0, 0) _ HA1.out Tryd.underlying51 rfl src_size ?_)
  refine SB.out.mono ?_
  rintro e W2 ⟨g, rfl, _, hr, hb2⟩
  have HR := Lib.hid hr
  have HB2 := Lib.hid (Kit.step HB1.out hb2)
  clear hr hb2 SB
  go_wp2_with fail
  have hsl := Da.sb_length k n
  obtain ⟨L, hL⟩ : ∃ L, Da.sb k n = L := ⟨_, rfl⟩
  have HSN : Hid (Da.sn k n = Da.nbe (L.take 8)) := Lib.hid (by rw [← hL, List.take_of_length_le (by omega)]; rfl)
  have HR' := HR.out
  rw [hL] at HR' hsl
  have HR := Lib.hid HR'
  clear HR' hL
  go_loopw [5, 12] (fun s i wr => SnAt L W2 s i wr) (fun _ i _ => 8 - (intOf i).toNat)
  case atStart => exact ⟨0, by omega, rfl, rfl, Below.refl _ _⟩
  case round =>
    obtain ⟨j, hj, rfl, rfl, hB⟩ := hrel
    by_cases hlt : j < 8
    · obtain ⟨b0, off, e, _, hc⟩ := (HR.out.later hB).cells (by simp [hsl])
      cases e
      have hc := hc j _ (bytesV_get L j (by omega))
      rw [Nat.zero_add] at hc
      have hst := Da.nbe_step L j (by omega)
      obtain ⟨s, hs⟩ : ∃ s, Da.nbe (L.take j) = s := ⟨_, rfl⟩
      obtain ⟨y, hy⟩ : ∃ y, (L.getD j 0).toNat = y := ⟨_, rfl⟩
      have hyl : y < 256 := by rw [← hy]; exact UInt8.toNat_lt _
      have hsm : s < 2 ^ 56 := by
        rw [← hs]
        exact Nat.lt_of_lt_of_le (Da.nbe_lt L j) (by rw [show (2 : Nat) ^ 56 = 256 ^ 7 from rfl]; exact Nat.pow_le_pow_right (by omega) (by omega))
      rw [hs, hy] at hst
      rw [hy] at hc
      rw [hs]
      have h1 : IntKind.u64.wrap ((s : Int) * 256) = ((s * 256 : Nat) : Int) := by rw [IntKind.wrap_u64]; omega
      have h2 : IntKind.u64.wrap (y : Int) = (y : Int) := by rw [IntKind.wrap_u64]; omega
      have H3 : Hid (bits .or .u64 ((s : Int) * 256) (y : Int) = ((s * 256 + y : Nat) : Int)) := Lib.hid (by rw [show ((s : Int) * 256) = ((s * 256 : Nat) : Int) by omega, or_u64 _ _ (by omega) (by omega), or_add _ _ hyl])
      have HB := Lib.hid hB
      have HST := Lib.hid hst
      clear hB hst hs hy
      go_wp2_with fail
      exact ⟨⟨j + 1, by omega, rfl, by rw [H3.out, HST.out], HB.out⟩, by simp [intOf]; omega⟩
    · obtain rfl : j = 8 := by omega
      have HB := Lib.hid hB
      clear hB
      go_wp2_with fail
      go_ret
      exact ⟨by rw [HSN.out]; rfl, Kit.step HB2.out HB.out⟩
set_option maxRecDepth 100000 in
theorem sbel_any (k : List UInt8) (n : Int) (m : Nat) (hm : 0 < m) (hm2 : m < 2 ^ 63) (p : Nat) (w : World) (hA : Arr w p 74 (bytesV (Da.fil k))) (hV : Cds w) :
    Calls Tryd.prog 29 #[.agg #[.pointer (some ⟨p, 0, none⟩)], .int .i64 n, .int .i64 m] w fun e w' => e = .returned (.int .i64 (Da.sn k n % m : Nat)) ∧ Below w.heap.size w w' := by
  have hmf := @makes Tryd.prog
  obtain ⟨b, hbe⟩ : ∃ b, w.heap.size = b := ⟨_, rfl⟩
  obtain ⟨W1, hW1⟩ : ∃ W1, w.alloc (.cells #[.pointer (some ⟨p, 0, none⟩)] 51) = W1 := ⟨_, rfl⟩
  have hb1 : Below w.heap.size w W1 := by rw [← hW1]; exact (Below.refl _ _).alloc (Nat.le_refl _) _
  have hA1 : Arr W1 b 51 [.pointer (some ⟨p, 0, none⟩)] := by rw [← hW1, ← hbe]; exact Arr.made _ _ _
  have HA1 : Hid (W1.heap[b]? = some (.cells #[.pointer (some ⟨p, 0, none⟩)] 51 (0, 0))) := Lib.hid hA1
  have HB1 := Lib.hid hb1
  have HE := Lib.hid hbe
  have HW1 := Lib.hid hW1
  have SN := Lib.hid (snum_any k n p W1 (hA.later hb1 hA.lt) (hV.later hb1))
  have hs := Da.sn_lt k n
  obtain ⟨s, hse⟩ : ∃ s, Da.sn k n = s := ⟨_, rfl⟩
  rw [hse] at SN hs ⊢
  have hsm : s % m < m := Nat.mod_lt _ hm
  have h1 : IntKind.u64.wrap (m : Int) = (m : Int) := by rw [IntKind.wrap_u64]; omega
  have h2 : ((s : Int).tmod (m : Int)) = ((s % m : Nat) : Int) := by rw [Int.tmod_eq_emod_of_nonneg (by omega)]; rfl
  have h3 : IntKind.u64.wrap ((s % m : Nat) : Int) = ((s % m : Nat) : Int) := by rw [IntKind.wrap_u64]; omega
  have h4 : IntKind.i64.wrap ((s % m : Nat) : Int) = ((s % m : Nat) : Int) := by rw [IntKind.wrap_i64]; omega
  have hm0 : ((m : Int) == 0) = false := beq_false_of_ne (by omega)
  obtain ⟨r, hr⟩ : ∃ r, s % m = r := ⟨_, rfl⟩
  rw [hr] at h2 h3 h4 ⊢
  clear hb1 hA1 hbe hW1 hA hV hse hsm hr
  go_enter Tryd.func29, Tryd.ntmps29
  go_wp2_with (first | rw [HW1.out, HE.out] | refine wpList_load_row rfl 51 (.tmp 3) rfl b rfl 51 #[.pointer (some ⟨p, 0, none⟩)] (0, 0) _ HA1.out Tryd.underlying51 rfl src_size ?_)
  refine SN.out.mono ?_
  rintro e W2 ⟨rfl, hb2⟩
  have HB2 := Lib.hid (Kit.step HB1.out hb2)
  clear hb2 SN
  go_wp2_with fail
  go_ret
  exact ⟨rfl, HB2.out⟩
end Go.Proofs.YtaanjlbkncfnbaaDoor
namespace Go.Proofs.YtaanjlbkncfnbaaDoor.Da
/-- the error's number of a number -/
def rb (n : Int) : Nat := if inR n then 0 else 1
/-- the error's number of a block to be masked -/
def mb (b : List UInt8) (n : Int) : Nat := if b.length = 8 then rb n else 8
theorem rb_le (n : Int) : rb n ≤ 20 := by unfold rb; split <;> omega
theorem mb_le (b : List UInt8) (n : Int) : mb b n ≤ 20 := by unfold mb; split <;> first | exact rb_le n | omega
theorem rb_zero {n : Int} (h : rb n = 0) : 0 ≤ n ∧ n ≤ 1099511627776 := by
  unfold rb inR at h
  split at h
  · rename_i h1; simpa using h1
  · cases h
theorem mb_zero {b : List UInt8} {n : Int} (h : mb b n = 0) : b.length = 8 ∧ rb n = 0 := by
  unfold mb at h
  split at h
  · exact ⟨by assumption, h⟩
  · cases h
end Go.Proofs.YtaanjlbkncfnbaaDoor.Da
namespace Go.Proofs.YtaanjlbkncfnbaaDoor.Er
open Go.RowKit
/-- the sentinels of a stream -/
structure E10 (W : World) (A : Nat → Addr) : Prop where
  c0 : W.cell? ⟨0, 0, none⟩ = some (.iface 102 (.pointer (some (A 0))))
  c7 : W.cell? ⟨7, 0, none⟩ = some (.iface 102 (.pointer (some (A 7))))
theorem E10.later {W W' : World} {A : Nat → Addr} (h : E10 W A) (hb : Below W.heap.size W W') : E10 W' A := ⟨cell_later h.c0 hb, cell_later h.c7 hb⟩
theorem Errs.ten {W : World} {A : Nat → Addr} (h : Errs W A) : E10 W A := ⟨h.c0, h.c7⟩
end Go.Proofs.YtaanjlbkncfnbaaDoor.Er
namespace Go.Proofs.YtaanjlbkncfnbaaDoor
open Go.RowKit
set_option linter.unusedVariables false
set_option linter.unusedSimpArgs false
theorem cblk_any (k : List UInt8) (o : Option Addr) (c : Nat) (n : Int) (A : Nat → Addr) (w : World) (hR : RowIs w o (bytesV k) c) (hV : Cds w) (hE : Er.E10 w A) (hl : k.length ≤ 900000) :
    Calls Tryd.prog 8 #[.slice o k.length c, .int .i64 n] w fun e w' => ∃ x, e = .returned (.tuple #[x, errV A (Da.rb n)]) ∧ RowV (Da.kres (Da.rb n) (Da.sb k n)) x w' ∧ Below w.heap.size w w' := by
  have SO := Lib.hid (sof10_any k o c w hR hV hl)
  have SR := Lib.hid (sran_any n w)
  have hE0 := hE.c0
  have HV := Lib.hid hV
  obtain ⟨r, hr⟩ : ∃ r, Da.inR n = r := ⟨_, rfl⟩
  unfold Da.rb
  rw [hr] at SR ⊢
  clear hR hV hE hr
  go_enter Tryd.func8, Tryd.ntmps8
  go_wp2_with fail
  refine SR.out.mono ?_
  rintro e w1 ⟨rfl, rfl⟩
  cases r with
  | false =>
    go_wp2_with fail
    go_region
    go_wp2_with fail
    refine bodyPost_ret (results_tmp2 rfl _ _ _) rfl ?_
    exact ⟨.slice none 0 0, rfl, RowV.nil _, Kit.dn' _ 1⟩
  | true =>
    clear hE0
    go_wp2_with fail
    refine SO.out.mono ?_
    rintro e w1 ⟨p, rfl, hk, hb1⟩
    have SB := Lib.hid (sblk_any k n p w1 hk (HV.out.later hb1))
    have HB1 := Lib.hid hb1
    clear hk hb1 SO
    go_wp2_with fail
    refine SB.out.mono ?_
    rintro e w2 ⟨g, rfl, _, hr, hb2⟩
    have HROW : Hid (RowV (Da.sb k n) (.slice (some ⟨g, 0, none⟩) 8 8) w2) := Lib.hid ⟨_, 8, by rw [Da.sb_length], hr⟩
    have HB2 := Lib.hid (Kit.step HB1.out hb2)
    clear hb2 hr SB
    go_wp2_with fail
    refine bodyPost_ret (results_tmp2 rfl _ _ _) rfl ?_
    exact ⟨.slice (some ⟨g, 0, none⟩) 8 8, rfl, HROW.out, HB2.out⟩
/-- number n, or 0 -/
def Da.snr (k : List UInt8) (n : Int) : Nat := if inR n then sn k n else 0
theorem cnum_any (k : List UInt8) (o : Option Addr) (c : Nat) (n : Int) (A : Nat → Addr) (w : World) (hR : RowIs w o (bytesV k) c) (hV : Cds w) (hE : Er.E10 w A) (hl : k.length ≤ 900000) :
    Calls Tryd.prog 9 #[.slice o k.length c, .int .i64 n] w fun e w' => e = .returned (.tuple #[.int .u64 (Da.snr k n : Nat), errV A (Da.rb n)]) ∧ Below w.heap.size w w' := by
  have SO := Lib.hid (sof10_any k o c w hR hV hl)
  have SR := Lib.hid (sran_any n w)
  have hE0 := hE.c0
  have HV := Lib.hid hV
  obtain ⟨r, hr⟩ : ∃ r, Da.inR n = r := ⟨_, rfl⟩
  unfold Da.rb Da.snr
  rw [hr] at SR ⊢
  clear hR hV hE hr
  go_enter Tryd.func9, Tryd.ntmps9
  go_wp2_with fail
  refine SR.out.mono ?_
  rintro e w1 ⟨rfl, rfl⟩
  cases r with
  | false =>
    go_wp2_with fail
    go_region
    go_wp2_with fail
    refine bodyPost_ret (results_tmp2 rfl _ _ _) rfl ?_
    exact ⟨rfl, Kit.dn' _ 1⟩
  | true =>
    clear hE0
    go_wp2_with fail
    refine SO.out.mono ?_
    rintro e w1 ⟨p, rfl, hk, hb1⟩
    have SB := Lib.hid (snum_any k n p w1 hk (HV.out.later hb1))
    have HB1 := Lib.hid hb1
    clear hk hb1 SO
    go_wp2_with fail
    refine SB.out.mono ?_
    rintro e w2 ⟨rfl, hb2⟩
    have HB2 := Lib.hid (Kit.step HB1.out hb2)
    clear hb2 SB
    go_wp2_with fail
    refine bodyPost_ret (results_tmp2 rfl _ _ _) rfl ?_
    exact ⟨rfl, HB2.out⟩
theorem flt_any (n : Int) (b : List UInt8) (o : Option Addr) (c : Nat) (A : Nat → Addr) (w : World) (hE : Er.E10 w A) :
    Calls Tryd.prog 26 #[.int .i64 n, .slice o b.length c] w fun e w' => e = .returned (errV A (Da.mb b n)) ∧ Below w.heap.size w w' := by
  have hE0 := hE.c0
  have hE7 := hE.c7
  have SR := Lib.hid (sran_any n w)
  obtain ⟨r, hr⟩ : ∃ r, Da.inR n = r := ⟨_, rfl⟩
  obtain ⟨m, hm⟩ : ∃ m, b.length = m := ⟨_, rfl⟩
  unfold Da.mb Da.rb
  rw [hr] at SR ⊢
  rw [hm]
  clear hE hr hm
  by_cases h8 : m = 8
  · subst h8
    rw [if_pos rfl]
    clear hE7
    go_enter Tryd.func26, Tryd.ntmps26
    go_wp2_with fail
    refine SR.out.mono ?_
    rintro e w1 ⟨rfl, rfl⟩
    cases r with
    | false =>
      go_wp2_with fail
      go_ret
      exact ⟨rfl, Below.refl _ _⟩
    | true =>
      go_wp2_with fail
      go_ret
      exact ⟨rfl, Below.refl _ _⟩
  · rw [if_neg h8]
    have hd1 : ((m : Int) != 8) = true := by rw [bne_iff_ne]; omega
    clear hE0
    go_enter Tryd.func26, Tryd.ntmps26
    go_wp2_with fail
    go_ret
    exact ⟨rfl, Below.refl _ _⟩
end Go.Proofs.YtaanjlbkncfnbaaDoor
