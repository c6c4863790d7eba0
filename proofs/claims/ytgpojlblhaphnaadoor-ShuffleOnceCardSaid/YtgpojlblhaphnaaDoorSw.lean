/- Shuffles: the code's orders: New, Size, Bits, come, walk, To, From. Written by mksw11.py. -/
import Derived.Test.YtgpojlblhaphnaaDoorSu
import Derived.Test.YtgpojlblhaphnaaDoorErr
namespace Go.Proofs.YtgpojlblhaphnaaDoor.Da
def inO (n : Nat) (i : Int) : Bool := decide (0 ≤ i) && decide (i < n)
/-- what is told of a number, and its error's number -/
def tv11 (f : Nat → Nat) (n M : Nat) (i : Int) : Nat := if inO n i then pl f n M i.toNat else 0
def ob11 (n : Nat) (i : Int) : Nat := if inO n i then 0 else 1
theorem inO_iff {n : Nat} {i : Int} : inO n i = true ↔ 0 ≤ i ∧ i < n := by simp [inO]
theorem ob11_le (n : Nat) (i : Int) : ob11 n i ≤ 20 := by unfold ob11; split <;> omega
end Go.Proofs.YtgpojlblhaphnaaDoor.Da
namespace Go.Proofs.YtgpojlblhaphnaaDoor.Er
open Go.RowKit
/-- the sentinel of a shuffle -/
structure E11 (W : World) (A : Nat → Addr) : Prop where
  c0 : W.cell? ⟨0, 0, none⟩ = some (.iface 98 (.pointer (some (A 0))))
theorem E11.later {W W' : World} {A : Nat → Addr} (h : E11 W A) (hb : Below W.heap.size W W') : E11 W' A := ⟨cell_later h.c0 hb⟩
theorem Errs.eleven {W : World} {A : Nat → Addr} (h : Errs W A) : E11 W A := ⟨h.c0⟩
end Go.Proofs.YtgpojlblhaphnaaDoor.Er
namespace Go.Proofs.YtgpojlblhaphnaaDoor
open Go.RowKit
set_option linter.unusedVariables false
set_option linter.unusedSimpArgs false
theorem ord_built (n : Int) (p : Nat) (m : Int) : Tryd.prog.built 47 [(0, .int .i64 n), (1, .agg #[.pointer (some ⟨p, 0, none⟩), .int .i64 m])] = some #[.int .i64 n, .pointer (some ⟨p, 0, none⟩), .int .i64 m] := by kernel_rfl
/-- an order in memory -/
def OrdAt (W : World) (g p : Nat) (k : List UInt8) (n : Nat) : Prop :=
  Arr W g 47 [.int .i64 (n : Int), .pointer (some ⟨p, 0, none⟩), .int .i64 (Da.bw n : Nat)] ∧ Arr W p 67 (bytesV (Da.fil k))
theorem OrdAt.later {W W' : World} {g p : Nat} {k : List UInt8} {n : Nat} (h : OrdAt W g p k n) (hb : Below W.heap.size W W') : OrdAt W' g p k n := ⟨h.1.later hb h.1.lt, h.2.later hb h.2.lt⟩
theorem OrdAt.size {W : World} {g p : Nat} {k : List UInt8} {n : Nat} (h : OrdAt W g p k n) : W.cell? ⟨g, 0, none⟩ = some (.int .i64 (n : Int)) := h.1.cell 0
theorem OrdAt.bits {W : World} {g p : Nat} {k : List UInt8} {n : Nat} (h : OrdAt W g p k n) : W.cell? ⟨g, 2, none⟩ = some (.int .i64 (Da.bw n : Nat)) := h.1.cell 2
theorem OrdAt.steps {W : World} {g p : Nat} {k : List UInt8} {n : Nat} (h : OrdAt W g p k n) : W.rangeAt g 1 [.pointer (some ⟨p, 0, none⟩), .int .i64 (Da.bw n : Nat)] :=
  h.1.range 1 _ fun j v hv => by
    rw [show 1 + j = j + 1 by omega, List.getElem?_cons_succ]; exact hv
set_option maxRecDepth 100000 in
theorem snew_any (k : List UInt8) (o : Option Addr) (c : Nat) (n : Nat) (hn1 : 1 ≤ n) (hn2 : n ≤ 1048576) (w : World) (hR : RowIs w o (bytesV k) c) (hV : Cds w) (hl : k.length ≤ 900000) :
    Calls Tryd.prog 8 #[.slice o k.length c, .int .i64 (n : Int)] w fun e w' => ∃ g p, e = .returned (.tuple #[.pointer (some ⟨g, 0, none⟩), .nilIface]) ∧ OrdAt w' g p k n ∧ Below w.heap.size w w' := by
  have SB := Lib.hid (sbits_any n hn2 w)
  have SO := Lib.hid (sto_any k o c (Da.bw n) w hR hV hl)
  have hd1 : decide ((n : Int) < 1) = false := by simp; omega
  have hd2 : decide ((n : Int) > 1048576) = false := by simp; omega
  obtain ⟨m, hm⟩ : ∃ m, Da.bw n = m := ⟨_, rfl⟩
  rw [hm] at SB SO
  have HM := Lib.hid hm
  clear hR hV hm
  go_enter Tryd.func8, Tryd.ntmps8
  go_wp2_with fail
  refine SB.out.mono ?_
  rintro e w1 ⟨rfl, rfl⟩
  go_wp2_with fail
  refine SO.out.mono ?_
  rintro e W2 ⟨p, rfl, hk, hb2⟩
  obtain ⟨g, hg⟩ : ∃ g, W2.heap.size = g := ⟨_, rfl⟩
  obtain ⟨W3, hW3⟩ : ∃ W3, W2.alloc (.cells #[.int .i64 (n : Int), .pointer (some ⟨p, 0, none⟩), .int .i64 (m : Int)] 47) = W3 := ⟨_, rfl⟩
  have hA3 : Arr W3 g 47 [.int .i64 (n : Int), .pointer (some ⟨p, 0, none⟩), .int .i64 (m : Int)] := by rw [← hW3, ← hg]; exact Arr.made _ _ _
  have hb3 : Below W2.heap.size W2 W3 := by rw [← hW3]; exact (Below.refl _ _).alloc (Nat.le_refl _) _
  have HO : Hid (OrdAt W3 g p k n) := Lib.hid ⟨by rw [HM.out]; exact hA3, hk.later hb3 hk.lt⟩
  have HB := Lib.hid (Kit.step hb2 hb3)
  have HW3 := Lib.hid hW3
  have HG := Lib.hid hg
  clear hk hb2 hb3 hA3 hg hW3 SO
  go_wp2_with (first | rw [HW3.out, HG.out] | refine wpList_built rfl 47 _ rfl [(0, .int .i64 (n : Int)), (1, .agg #[.pointer (some ⟨p, 0, none⟩), .int .i64 (m : Int)])] (by simp; rfl) _ (ord_built (n : Int) p (m : Int)) ?_)
  refine bodyPost_ret (results_tmp2 rfl _ _ _) rfl ?_
  exact ⟨g, p, rfl, HO.out, HB.out⟩
set_option maxRecDepth 100000 in
theorem snew_bad (k : List UInt8) (o : Option Addr) (c : Nat) (n : Int) (hn : n < 1 ∨ 1048576 < n) (A : Nat → Addr) (w : World) (hE : Er.E11 w A) :
    Calls Tryd.prog 8 #[.slice o k.length c, .int .i64 n] w fun e w' => e = .returned (.tuple #[.pointer none, errV A 1]) ∧ Below w.heap.size w w' := by
  have hE0 := hE.c0
  clear hE
  rcases hn with hn | hn
  · have hd1 : decide (n < 1) = true := by simp; omega
    go_enter Tryd.func8, Tryd.ntmps8
    go_wp2_with fail
    go_region
    go_wp2_with fail
    refine bodyPost_ret (results_tmp2 rfl _ _ _) rfl ?_
    exact ⟨rfl, Kit.dn' _ 1⟩
  · have hd1 : decide (n < 1) = false := by simp; omega
    have hd2 : decide (n > 1048576) = true := by simp; omega
    go_enter Tryd.func8, Tryd.ntmps8
    go_wp2_with fail
    go_region
    go_wp2_with fail
    refine bodyPost_ret (results_tmp2 rfl _ _ _) rfl ?_
    exact ⟨rfl, Kit.dn' _ 1⟩
theorem ssize_any (g p : Nat) (k : List UInt8) (n : Nat) (w : World) (hO : OrdAt w g p k n) : Calls Tryd.prog 10 #[.pointer (some ⟨g, 0, none⟩)] w fun e w' => e = .returned (.int .i64 (n : Int)) ∧ w' = w := by
  have hc := hO.size
  clear hO
  go_enter Tryd.func10, Tryd.ntmps10
  go_wp2_with fail
  go_ret
  exact ⟨rfl, rfl⟩
theorem sbit_any (g p : Nat) (k : List UInt8) (n : Nat) (w : World) (hO : OrdAt w g p k n) : Calls Tryd.prog 11 #[.pointer (some ⟨g, 0, none⟩)] w fun e w' => e = .returned (.int .i64 (Da.bw n : Nat)) ∧ w' = w := by
  have hc := hO.bits
  obtain ⟨B, hB⟩ : ∃ B : Int, ((Da.bw n : Nat) : Int) = B := ⟨_, rfl⟩
  rw [hB] at hc ⊢
  clear hO hB
  go_enter Tryd.func11, Tryd.ntmps11
  go_wp2_with fail
  go_ret
  exact ⟨rfl, rfl⟩
def Co11At (f : Nat → Nat) (n M T : Nat) (w : World) (i : Value) (wr : World) : Prop :=
  ∃ y d : Nat, i = .int .i64 (y : Int) ∧ y < M ∧ d ≤ M ∧ Da.Hit f n d y ∧ Da.it f d y = T ∧ Below w.heap.size w wr
set_option maxRecDepth 100000 in
set_option maxHeartbeats 1000000 in
theorem ocome_any (g p : Nat) (k : List UInt8) (n : Nat) (hn : n ≤ 1048576) (x : Nat) (hx : x < n) (w : World) (hO : OrdAt w g p k n) (hV : Cds w) :
    Calls Tryd.prog 28 #[.pointer (some ⟨g, 0, none⟩), .func (.func 23) #[.agg #[.pointer (some ⟨p, 0, none⟩), .int .i64 (Da.bw n : Nat)]] #[], .int .i64 (x : Int)] w fun e w' => e = .returned (.int .i64 ((Da.pl (Da.son k (Da.bw n)) n (4 ^ Da.bw n) x : Nat) : Int)) ∧ Below w.heap.size w w' := by
  have HO := Lib.hid hO
  have HV := Lib.hid hV
  have hm10 := (Da.bw_le n hn).2
  have hnM := Da.bw_ge n hn
  obtain ⟨m, hm⟩ : ∃ m, Da.bw n = m := ⟨_, rfl⟩
  have HM := Lib.hid hm
  rw [hm] at hm10 hnM ⊢
  have hp : Da.Perm (4 ^ m) (Da.son k m) (Da.sbk k m) := Da.sperm k m
  obtain ⟨H, hM⟩ := hp.hit n x hx hnM
  have ST : Hid (∀ (y : Nat), y < 4 ^ m → ∀ v, Below w.heap.size w v → Calls Tryd.prog 23 #[.agg #[.pointer (some ⟨p, 0, none⟩), .int .i64 (m : Int)], .int .i64 (y : Int)] v fun e w' => e = .returned (.int .i64 ((Da.son k m y : Nat) : Int)) ∧ Below v.heap.size v w') :=
    Lib.hid (fun y hy v hb => son_any k p m hm10 y hy v (HO.out.later hb).2 (HV.out.later hb))
  have hFT : ∀ y, y < 4 ^ m → Da.son k m y < 4 ^ m := hp.flt
  have hxM : x < 4 ^ m := by omega
  obtain ⟨T, hT⟩ : ∃ T, Da.pl (Da.son k m) n (4 ^ m) x = T := ⟨_, rfl⟩
  have hit0 : Da.it (Da.son k m) (Da.dst (Da.son k m) n (4 ^ m) (Da.son k m x)) (Da.son k m x) = T := hT
  obtain ⟨f, hf⟩ : ∃ f, Da.son k m = f := ⟨_, rfl⟩
  rw [hT]
  rw [hf] at H hM ST hFT hit0
  obtain ⟨M, hMM⟩ : ∃ M, 4 ^ m = M := ⟨_, rfl⟩
  rw [hMM] at H hM ST hFT hit0 hxM
  have HFT := Lib.hid hFT
  obtain ⟨d0, hd0⟩ : ∃ d, Da.dst f n M (f x) = d := ⟨_, rfl⟩
  rw [hd0] at H hM hit0
  have HX0 : Hid (∀ wr, Below w.heap.size w wr → Co11At f n M T w (.int .i64 ((f x : Nat) : Int)) wr) := Lib.hid (fun wr hb => ⟨f x, d0, rfl, hFT x hxM, by omega, H, hit0, hb⟩)
  have ST0 := Lib.hid (ST.out x hxM w (Below.refl _ _))
  obtain ⟨x1, hx1⟩ : ∃ x1, f x = x1 := ⟨_, rfl⟩
  rw [hx1] at HX0 ST0
  clear hO hV hm hnM hp H hM hFT hxM hT hit0 hf hMM hd0 hx1 hx hm10
  go_enter Tryd.func28, Tryd.ntmps28
  go_wp2_with fail
  refine ST0.out.mono ?_
  rintro e W1 ⟨rfl, hb1⟩
  have HB1 := Lib.hid hb1
  clear hb1 ST0
  go_wp2_with fail
  go_loopw [2] (fun i wr => Co11At f n M T w i wr) (fun i _ => Da.dst f n M (intOf i).toNat)
  case atStart => exact HX0.out W1 HB1.out
  case round =>
    obtain ⟨y, d, rfl, hy, hd, hh, hi, hB⟩ := hrel
    have hc := (HO.out.later hB).size
    by_cases hlt : y < n
    · have hd1 : decide ((y : Int) ≥ (n : Int)) = false := by simp; omega
      have he : y = T := by
        have := hh.here hlt
        subst this
        exact hi
      have HE := Lib.hid he
      have HB := Lib.hid hB
      clear hB hh hi he hy hd
      go_wp2_with fail
      go_ret
      exact ⟨by rw [← HE.out]; rfl, HB.out⟩
    · have hd1 : decide ((y : Int) ≥ (n : Int)) = true := by simp; omega
      have hdy := hh.dst hd
      obtain ⟨d', rfl, hh'⟩ := hh.step (by omega)
      have hdf := hh'.dst (q := M) (by omega)
      have ST1 := Lib.hid (ST.out y hy wr hB)
      have HNX : Hid (∀ wr', Below w.heap.size w wr' → Co11At f n M T w (.int .i64 ((f y : Nat) : Int)) wr') := Lib.hid (fun wr' hb => ⟨f y, d', rfl, HFT.out y hy, by omega, hh', hi, hb⟩)
      have HDL : Hid (Da.dst f n M (f y) < Da.dst f n M y) := Lib.hid (by rw [hdy, hdf]; omega)
      obtain ⟨y1, hy1⟩ : ∃ y1, f y = y1 := ⟨_, rfl⟩
      rw [hy1] at ST1 HNX HDL
      have HB := Lib.hid hB
      clear hB hh hi hy hd hdy hh' hdf hy1
      go_wp2_with fail
      refine ST1.out.mono ?_
      rintro e W2 ⟨rfl, hb2⟩
      have HB2 := Lib.hid (Kit.step HB.out hb2)
      clear hb2 ST1
      go_wp2_with fail
      exact ⟨HNX.out W2 HB2.out, by simp only [intOf, Int.toNat_natCast]; exact HDL.out⟩
set_option maxRecDepth 100000 in
set_option maxHeartbeats 1000000 in
theorem owalk_any (g p : Nat) (k : List UInt8) (n : Nat) (hn : n ≤ 1048576) (i : Int) (A : Nat → Addr) (w : World) (hO : OrdAt w g p k n) (hV : Cds w) (hE : Er.E11 w A) :
    Calls Tryd.prog 22 #[.pointer (some ⟨g, 0, none⟩), .func (.func 23) #[.agg #[.pointer (some ⟨p, 0, none⟩), .int .i64 (Da.bw n : Nat)]] #[], .int .i64 i] w fun e w' => e = .returned (.tuple #[.int .i64 ((Da.tv11 (Da.son k (Da.bw n)) n (4 ^ Da.bw n) i : Nat) : Int), errV A (Da.ob11 n i)]) ∧ Below w.heap.size w w' := by
  have hE0 := hE.c0
  have hc := hO.size
  by_cases h0 : i < 0
  · have hd1 : decide (i < 0) = true := by simp; omega
    have hin : Da.inO n i = false := by simp [Da.inO]; omega
    have HT : Hid (Da.tv11 (Da.son k (Da.bw n)) n (4 ^ Da.bw n) i = 0) := Lib.hid (by unfold Da.tv11; rw [hin]; rfl)
    have hb : Da.ob11 n i = 1 := by unfold Da.ob11; rw [hin]; rfl
    rw [HT.out, hb]
    obtain ⟨m, hm⟩ : ∃ m : Int, ((Da.bw n : Nat) : Int) = m := ⟨_, rfl⟩
    rw [hm]
    clear hO hV hE hin hb HT hm
    go_enter Tryd.func22, Tryd.ntmps22
    go_wp2_with fail
    go_region
    go_wp2_with fail
    refine bodyPost_ret (results_tmp2 rfl _ _ _) rfl ?_
    exact ⟨rfl, Kit.dn' _ 1⟩
  · have hd1 : decide (i < 0) = false := by simp; omega
    by_cases h1 : i < n
    · have hd2 : decide (i ≥ (n : Int)) = false := by simp; omega
      have hin : Da.inO n i = true := Da.inO_iff.2 ⟨by omega, h1⟩
      obtain ⟨x, rfl⟩ : ∃ x : Nat, i = (x : Int) := ⟨i.toNat, by omega⟩
      have hd3 : decide (n ≤ x) = false := by simp; omega
      have CO := ocome_any g p k n hn x (by omega) w hO hV
      have ht : Da.pl (Da.son k (Da.bw n)) n (4 ^ Da.bw n) x = Da.tv11 (Da.son k (Da.bw n)) n (4 ^ Da.bw n) (x : Int) := by unfold Da.tv11; rw [hin]; rfl
      have hb : Da.ob11 n (x : Int) = 0 := by unfold Da.ob11; rw [hin]; rfl
      rw [ht] at CO
      rw [hb]
      obtain ⟨T, hT⟩ : ∃ T, Da.tv11 (Da.son k (Da.bw n)) n (4 ^ Da.bw n) (x : Int) = T := ⟨_, rfl⟩
      obtain ⟨m, hm⟩ : ∃ m : Int, ((Da.bw n : Nat) : Int) = m := ⟨_, rfl⟩
      rw [hT, hm] at CO
      rw [hT, hm]
      have HCO := Lib.hid CO
      clear CO hO hV hE hin ht hb hT hm hE0 h0 h1
      go_enter Tryd.func22, Tryd.ntmps22
      go_wp2_with fail
      refine HCO.out.mono ?_
      rintro e W1 ⟨rfl, hb1⟩
      have HB1 := Lib.hid hb1
      clear hb1 HCO
      go_wp2_with fail
      refine bodyPost_ret (results_tmp2 rfl _ _ _) rfl ?_
      exact ⟨rfl, HB1.out⟩
    · have hd2 : decide (i ≥ (n : Int)) = true := by simp; omega
      have hin : Da.inO n i = false := by simp [Da.inO]; omega
      have HT : Hid (Da.tv11 (Da.son k (Da.bw n)) n (4 ^ Da.bw n) i = 0) := Lib.hid (by unfold Da.tv11; rw [hin]; rfl)
      have hb : Da.ob11 n i = 1 := by unfold Da.ob11; rw [hin]; rfl
      rw [HT.out, hb]
      obtain ⟨m, hm⟩ : ∃ m : Int, ((Da.bw n : Nat) : Int) = m := ⟨_, rfl⟩
      rw [hm]
      clear hO hV hE hin hb HT hm
      go_enter Tryd.func22, Tryd.ntmps22
      go_wp2_with fail
      go_region
      go_wp2_with fail
      refine bodyPost_ret (results_tmp2 rfl _ _ _) rfl ?_
      exact ⟨rfl, Kit.dn' _ 1⟩
set_option maxRecDepth 100000 in
set_option maxHeartbeats 1000000 in
theorem oto_any (g p : Nat) (k : List UInt8) (n : Nat) (hn : n ≤ 1048576) (i : Int) (A : Nat → Addr) (w : World) (hO : OrdAt w g p k n) (hV : Cds w) (hE : Er.E11 w A) :
    Calls Tryd.prog 13 #[.pointer (some ⟨g, 0, none⟩), .int .i64 i] w fun e w' => e = .returned (.tuple #[.int .i64 ((Da.tv11 (Da.son k (Da.bw n)) n (4 ^ Da.bw n) i : Nat) : Int), errV A (Da.ob11 n i)]) ∧ Below w.heap.size w w' := by
  have hmf := @makes Tryd.prog
  have WA := owalk_any g p k n hn i A w hO hV hE
  have hst := hO.steps
  obtain ⟨m, hm⟩ : ∃ m : Int, ((Da.bw n : Nat) : Int) = m := ⟨_, rfl⟩
  obtain ⟨T, hT⟩ : ∃ T : Int, ((Da.tv11 (Da.son k (Da.bw n)) n (4 ^ Da.bw n) i : Nat) : Int) = T := ⟨_, rfl⟩
  rw [hT] at WA ⊢
  rw [hm] at WA hst
  have HST := Lib.hid hst
  have HWA := Lib.hid WA
  clear WA hO hV hE hst hm hT
  go_enter Tryd.func13, Tryd.ntmps13
  go_wp2_with (first | refine wpList_load_mid rfl 44 (.tmp 9) rfl g 1 rfl [.pointer (some ⟨p, 0, none⟩), .int .i64 m] _ HST.out Tryd.underlying44 rfl stp_size ?_)
  refine HWA.out.mono ?_
  rintro e W1 ⟨rfl, hb1⟩
  have HB1 := Lib.hid hb1
  clear hb1 HWA
  go_wp2_with fail
  refine bodyPost_ret (results_tmp2 rfl _ _ _) rfl ?_
  exact ⟨rfl, HB1.out⟩
set_option maxRecDepth 100000 in
set_option maxHeartbeats 1000000 in
theorem kcome_any (g p : Nat) (k : List UInt8) (n : Nat) (hn : n ≤ 1048576) (x : Nat) (hx : x < n) (w : World) (hO : OrdAt w g p k n) (hV : Cds w) :
    Calls Tryd.prog 28 #[.pointer (some ⟨g, 0, none⟩), .func (.func 24) #[.agg #[.pointer (some ⟨p, 0, none⟩), .int .i64 (Da.bw n : Nat)]] #[], .int .i64 (x : Int)] w fun e w' => e = .returned (.int .i64 ((Da.pl (Da.sbk k (Da.bw n)) n (4 ^ Da.bw n) x : Nat) : Int)) ∧ Below w.heap.size w w' := by
  have HO := Lib.hid hO
  have HV := Lib.hid hV
  have hm10 := (Da.bw_le n hn).2
  have hnM := Da.bw_ge n hn
  obtain ⟨m, hm⟩ : ∃ m, Da.bw n = m := ⟨_, rfl⟩
  have HM := Lib.hid hm
  rw [hm] at hm10 hnM ⊢
  have hp : Da.Perm (4 ^ m) (Da.sbk k m) (Da.son k m) := (Da.sperm k m).symm
  obtain ⟨H, hM⟩ := hp.hit n x hx hnM
  have ST : Hid (∀ (y : Nat), y < 4 ^ m → ∀ v, Below w.heap.size w v → Calls Tryd.prog 24 #[.agg #[.pointer (some ⟨p, 0, none⟩), .int .i64 (m : Int)], .int .i64 (y : Int)] v fun e w' => e = .returned (.int .i64 ((Da.sbk k m y : Nat) : Int)) ∧ Below v.heap.size v w') :=
    Lib.hid (fun y hy v hb => sbk_any k p m hm10 y hy v (HO.out.later hb).2 (HV.out.later hb))
  have hFT : ∀ y, y < 4 ^ m → Da.sbk k m y < 4 ^ m := hp.flt
  have hxM : x < 4 ^ m := by omega
  obtain ⟨T, hT⟩ : ∃ T, Da.pl (Da.sbk k m) n (4 ^ m) x = T := ⟨_, rfl⟩
  have hit0 : Da.it (Da.sbk k m) (Da.dst (Da.sbk k m) n (4 ^ m) (Da.sbk k m x)) (Da.sbk k m x) = T := hT
  obtain ⟨f, hf⟩ : ∃ f, Da.sbk k m = f := ⟨_, rfl⟩
  rw [hT]
  rw [hf] at H hM ST hFT hit0
  obtain ⟨M, hMM⟩ : ∃ M, 4 ^ m = M := ⟨_, rfl⟩
  rw [hMM] at H hM ST hFT hit0 hxM
  have HFT := Lib.hid hFT
  obtain ⟨d0, hd0⟩ : ∃ d, Da.dst f n M (f x) = d := ⟨_, rfl⟩
  rw [hd0] at H hM hit0
  have HX0 : Hid (∀ wr, Below w.heap.size w wr → Co11At f n M T w (.int .i64 ((f x : Nat) : Int)) wr) := Lib.hid (fun wr hb => ⟨f x, d0, rfl, hFT x hxM, by omega, H, hit0, hb⟩)
  have ST0 := Lib.hid (ST.out x hxM w (Below.refl _ _))
  obtain ⟨x1, hx1⟩ : ∃ x1, f x = x1 := ⟨_, rfl⟩
  rw [hx1] at HX0 ST0
  clear hO hV hm hnM hp H hM hFT hxM hT hit0 hf hMM hd0 hx1 hx hm10
  go_enter Tryd.func28, Tryd.ntmps28
  go_wp2_with fail
  refine ST0.out.mono ?_
  rintro e W1 ⟨rfl, hb1⟩
  have HB1 := Lib.hid hb1
  clear hb1 ST0
  go_wp2_with fail
  go_loopw [2] (fun i wr => Co11At f n M T w i wr) (fun i _ => Da.dst f n M (intOf i).toNat)
  case atStart => exact HX0.out W1 HB1.out
  case round =>
    obtain ⟨y, d, rfl, hy, hd, hh, hi, hB⟩ := hrel
    have hc := (HO.out.later hB).size
    by_cases hlt : y < n
    · have hd1 : decide ((y : Int) ≥ (n : Int)) = false := by simp; omega
      have he : y = T := by
        have := hh.here hlt
        subst this
        exact hi
      have HE := Lib.hid he
      have HB := Lib.hid hB
      clear hB hh hi he hy hd
      go_wp2_with fail
      go_ret
      exact ⟨by rw [← HE.out]; rfl, HB.out⟩
    · have hd1 : decide ((y : Int) ≥ (n : Int)) = true := by simp; omega
      have hdy := hh.dst hd
      obtain ⟨d', rfl, hh'⟩ := hh.step (by omega)
      have hdf := hh'.dst (q := M) (by omega)
      have ST1 := Lib.hid (ST.out y hy wr hB)
      have HNX : Hid (∀ wr', Below w.heap.size w wr' → Co11At f n M T w (.int .i64 ((f y : Nat) : Int)) wr') := Lib.hid (fun wr' hb => ⟨f y, d', rfl, HFT.out y hy, by omega, hh', hi, hb⟩)
      have HDL : Hid (Da.dst f n M (f y) < Da.dst f n M y) := Lib.hid (by rw [hdy, hdf]; omega)
      obtain ⟨y1, hy1⟩ : ∃ y1, f y = y1 := ⟨_, rfl⟩
      rw [hy1] at ST1 HNX HDL
      have HB := Lib.hid hB
      clear hB hh hi hy hd hdy hh' hdf hy1
      go_wp2_with fail
      refine ST1.out.mono ?_
      rintro e W2 ⟨rfl, hb2⟩
      have HB2 := Lib.hid (Kit.step HB.out hb2)
      clear hb2 ST1
      go_wp2_with fail
      exact ⟨HNX.out W2 HB2.out, by simp only [intOf, Int.toNat_natCast]; exact HDL.out⟩
set_option maxRecDepth 100000 in
set_option maxHeartbeats 1000000 in
theorem kwalk_any (g p : Nat) (k : List UInt8) (n : Nat) (hn : n ≤ 1048576) (i : Int) (A : Nat → Addr) (w : World) (hO : OrdAt w g p k n) (hV : Cds w) (hE : Er.E11 w A) :
    Calls Tryd.prog 22 #[.pointer (some ⟨g, 0, none⟩), .func (.func 24) #[.agg #[.pointer (some ⟨p, 0, none⟩), .int .i64 (Da.bw n : Nat)]] #[], .int .i64 i] w fun e w' => e = .returned (.tuple #[.int .i64 ((Da.tv11 (Da.sbk k (Da.bw n)) n (4 ^ Da.bw n) i : Nat) : Int), errV A (Da.ob11 n i)]) ∧ Below w.heap.size w w' := by
  have hE0 := hE.c0
  have hc := hO.size
  by_cases h0 : i < 0
  · have hd1 : decide (i < 0) = true := by simp; omega
    have hin : Da.inO n i = false := by simp [Da.inO]; omega
    have HT : Hid (Da.tv11 (Da.sbk k (Da.bw n)) n (4 ^ Da.bw n) i = 0) := Lib.hid (by unfold Da.tv11; rw [hin]; rfl)
    have hb : Da.ob11 n i = 1 := by unfold Da.ob11; rw [hin]; rfl
    rw [HT.out, hb]
    obtain ⟨m, hm⟩ : ∃ m : Int, ((Da.bw n : Nat) : Int) = m := ⟨_, rfl⟩
    rw [hm]
    clear hO hV hE hin hb HT hm
    go_enter Tryd.func22, Tryd.ntmps22
    go_wp2_with fail
    go_region
    go_wp2_with fail
    refine bodyPost_ret (results_tmp2 rfl _ _ _) rfl ?_
    exact ⟨rfl, Kit.dn' _ 1⟩
  · have hd1 : decide (i < 0) = false := by simp; omega
    by_cases h1 : i < n
    · have hd2 : decide (i ≥ (n : Int)) = false := by simp; omega
      have hin : Da.inO n i = true := Da.inO_iff.2 ⟨by omega, h1⟩
      obtain ⟨x, rfl⟩ : ∃ x : Nat, i = (x : Int) := ⟨i.toNat, by omega⟩
      have hd3 : decide (n ≤ x) = false := by simp; omega
      have CO := kcome_any g p k n hn x (by omega) w hO hV
      have ht : Da.pl (Da.sbk k (Da.bw n)) n (4 ^ Da.bw n) x = Da.tv11 (Da.sbk k (Da.bw n)) n (4 ^ Da.bw n) (x : Int) := by unfold Da.tv11; rw [hin]; rfl
      have hb : Da.ob11 n (x : Int) = 0 := by unfold Da.ob11; rw [hin]; rfl
      rw [ht] at CO
      rw [hb]
      obtain ⟨T, hT⟩ : ∃ T, Da.tv11 (Da.sbk k (Da.bw n)) n (4 ^ Da.bw n) (x : Int) = T := ⟨_, rfl⟩
      obtain ⟨m, hm⟩ : ∃ m : Int, ((Da.bw n : Nat) : Int) = m := ⟨_, rfl⟩
      rw [hT, hm] at CO
      rw [hT, hm]
      have HCO := Lib.hid CO
      clear CO hO hV hE hin ht hb hT hm hE0 h0 h1
      go_enter Tryd.func22, Tryd.ntmps22
      go_wp2_with fail
      refine HCO.out.mono ?_
      rintro e W1 ⟨rfl, hb1⟩
      have HB1 := Lib.hid hb1
      clear hb1 HCO
      go_wp2_with fail
      refine bodyPost_ret (results_tmp2 rfl _ _ _) rfl ?_
      exact ⟨rfl, HB1.out⟩
    · have hd2 : decide (i ≥ (n : Int)) = true := by simp; omega
      have hin : Da.inO n i = false := by simp [Da.inO]; omega
      have HT : Hid (Da.tv11 (Da.sbk k (Da.bw n)) n (4 ^ Da.bw n) i = 0) := Lib.hid (by unfold Da.tv11; rw [hin]; rfl)
      have hb : Da.ob11 n i = 1 := by unfold Da.ob11; rw [hin]; rfl
      rw [HT.out, hb]
      obtain ⟨m, hm⟩ : ∃ m : Int, ((Da.bw n : Nat) : Int) = m := ⟨_, rfl⟩
      rw [hm]
      clear hO hV hE hin hb HT hm
      go_enter Tryd.func22, Tryd.ntmps22
      go_wp2_with fail
      go_region
      go_wp2_with fail
      refine bodyPost_ret (results_tmp2 rfl _ _ _) rfl ?_
      exact ⟨rfl, Kit.dn' _ 1⟩
set_option maxRecDepth 100000 in
set_option maxHeartbeats 1000000 in
theorem kfrom_any (g p : Nat) (k : List UInt8) (n : Nat) (hn : n ≤ 1048576) (i : Int) (A : Nat → Addr) (w : World) (hO : OrdAt w g p k n) (hV : Cds w) (hE : Er.E11 w A) :
    Calls Tryd.prog 14 #[.pointer (some ⟨g, 0, none⟩), .int .i64 i] w fun e w' => e = .returned (.tuple #[.int .i64 ((Da.tv11 (Da.sbk k (Da.bw n)) n (4 ^ Da.bw n) i : Nat) : Int), errV A (Da.ob11 n i)]) ∧ Below w.heap.size w w' := by
  have hmf := @makes Tryd.prog
  have WA := kwalk_any g p k n hn i A w hO hV hE
  have hst := hO.steps
  obtain ⟨m, hm⟩ : ∃ m : Int, ((Da.bw n : Nat) : Int) = m := ⟨_, rfl⟩
  obtain ⟨T, hT⟩ : ∃ T : Int, ((Da.tv11 (Da.sbk k (Da.bw n)) n (4 ^ Da.bw n) i : Nat) : Int) = T := ⟨_, rfl⟩
  rw [hT] at WA ⊢
  rw [hm] at WA hst
  have HST := Lib.hid hst
  have HWA := Lib.hid WA
  clear WA hO hV hE hst hm hT
  go_enter Tryd.func14, Tryd.ntmps14
  go_wp2_with (first | refine wpList_load_mid rfl 44 (.tmp 9) rfl g 1 rfl [.pointer (some ⟨p, 0, none⟩), .int .i64 m] _ HST.out Tryd.underlying44 rfl stp_size ?_)
  refine HWA.out.mono ?_
  rintro e W1 ⟨rfl, hb1⟩
  have HB1 := Lib.hid hb1
  clear hb1 HWA
  go_wp2_with fail
  refine bodyPost_ret (results_tmp2 rfl _ _ _) rfl ?_
  exact ⟨rfl, HB1.out⟩
end Go.Proofs.YtgpojlblhaphnaaDoor
