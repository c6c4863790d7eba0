/- Shuffles: To and From of a number that is one of the order's; the chapter's example. -/
import Derived.Test.YtgpojlblhaphnaaDoorSw
namespace Go.Proofs.YtgpojlblhaphnaaDoor
open Go.RowKit
set_option linter.unusedVariables false
set_option linter.unusedSimpArgs false
theorem neq_nil11 (v : World) : (binOp .neq 26 .nilIface .nilIface).run Tryd.prog v = .ok (.bool false) v := by kernel_rfl
theorem eql_nil11 (v : World) : (binOp .eql 26 .nilIface .nilIface).run Tryd.prog v = .ok (.bool true) v := by kernel_rfl
theorem Da.tv_in (f : Nat → Nat) (n M x : Nat) (h : x < n) : tv11 f n M (x : Int) = pl f n M x ∧ ob11 n (x : Int) = 0 := by
  have hin : inO n (x : Int) = true := inO_iff.2 ⟨by omega, by omega⟩
  unfold tv11 ob11
  rw [hin]
  exact ⟨rfl, rfl⟩
/-- the place of a number, and the number of a place -/
def Da.pto (k : List UInt8) (n x : Nat) : Nat := pl (son k (bw n)) n (4 ^ bw n) x
def Da.pfrom (k : List UInt8) (n x : Nat) : Nat := pl (sbk k (bw n)) n (4 ^ bw n) x
theorem Da.pto_lt {k : List UInt8} {n x : Nat} (hn : n ≤ 1048576) (h : x < n) : pto k n x < n := (sperm k (bw n)).pl_lt n x h (bw_ge n hn)
theorem Da.pfrom_lt {k : List UInt8} {n x : Nat} (hn : n ≤ 1048576) (h : x < n) : pfrom k n x < n := (sperm k (bw n)).symm.pl_lt n x h (bw_ge n hn)
theorem Da.pfrom_pto {k : List UInt8} {n x : Nat} (hn : n ≤ 1048576) (h : x < n) : pfrom k n (pto k n x) = x := (sperm k (bw n)).pl_back n x h (bw_ge n hn)
theorem Da.pto_pfrom {k : List UInt8} {n x : Nat} (hn : n ≤ 1048576) (h : x < n) : pto k n (pfrom k n x) = x := (sperm k (bw n)).symm.pl_back n x h (bw_ge n hn)
theorem oto_in (g p : Nat) (k : List UInt8) (n : Nat) (hn : n ≤ 1048576) (x : Nat) (hx : x < n) (A : Nat → Addr) (w : World) (hO : OrdAt w g p k n) (hV : Cds w) (hE : Er.E11 w A) :
    Calls Tryd.prog 13 #[.pointer (some ⟨g, 0, none⟩), .int .i64 (x : Int)] w fun e w' => e = .returned (.tuple #[.int .i64 ((Da.pto k n x : Nat) : Int), .nilIface]) ∧ Below w.heap.size w w' := by
  have := oto_any g p k n hn (x : Int) A w hO hV hE
  rw [(Da.tv_in _ n _ x hx).1, (Da.tv_in (Da.son k (Da.bw n)) n (4 ^ Da.bw n) x hx).2] at this
  exact this
theorem kfrom_in (g p : Nat) (k : List UInt8) (n : Nat) (hn : n ≤ 1048576) (x : Nat) (hx : x < n) (A : Nat → Addr) (w : World) (hO : OrdAt w g p k n) (hV : Cds w) (hE : Er.E11 w A) :
    Calls Tryd.prog 14 #[.pointer (some ⟨g, 0, none⟩), .int .i64 (x : Int)] w fun e w' => e = .returned (.tuple #[.int .i64 ((Da.pfrom k n x : Nat) : Int), .nilIface]) ∧ Below w.heap.size w w' := by
  have := kfrom_any g p k n hn (x : Int) A w hO hV hE
  rw [(Da.tv_in _ n _ x hx).1, (Da.tv_in (Da.sbk k (Da.bw n)) n (4 ^ Da.bw n) x hx).2] at this
  exact this
set_option maxRecDepth 100000 in
set_option maxHeartbeats 1000000 in
theorem alive11_any (A : Nat → Addr) (w : World) (hV : Cds w) (hE : Er.E11 w A) : Calls Tryd.prog 7 #[] w fun e w' => e = .returned (.bool true) ∧ Below w.heap.size w w' := by
  have NW := Lib.hid (snew_any [] none 0 1 (by decide) (by decide) w (RowIs.empty none 0 (Nat.zero_le _) (fun _ => rfl)) hV (by decide))
  have HV := Lib.hid hV
  have HE := Lib.hid hE
  have h1 := neq_nil11
  have h2 := eql_nil11
  clear hV hE
  go_enter Tryd.func7, Tryd.ntmps7
  go_wp2_with fail
  refine NW.out.mono ?_
  rintro e W1 ⟨g, p, rfl, ho, hb1⟩
  have TO := oto_in g p [] 1 (by decide) 0 (by decide) A W1 ho (HV.out.later hb1) (HE.out.later hb1)
  have h0 : Da.pto [] 1 0 = 0 := by
    have := Da.pto_lt (k := []) (n := 1) (x := 0) (by decide) (by decide)
    omega
  rw [h0] at TO
  have HTO := Lib.hid TO
  have HO := Lib.hid ho
  have HB1 := Lib.hid hb1
  clear ho hb1 TO h0 NW
  go_wp2_with fail
  refine HTO.out.mono ?_
  rintro e W2 ⟨rfl, hb2⟩
  have SZ := Lib.hid (ssize_any g p [] 1 W2 (HO.out.later hb2))
  have BT := Lib.hid (sbit_any g p [] 1 W2 (HO.out.later hb2))
  rw [Da.bw_one] at BT
  have HB2 := Lib.hid (Kit.step HB1.out hb2)
  clear hb2 HTO
  go_wp2_with fail
  refine SZ.out.mono ?_
  rintro e w1 ⟨rfl, rfl⟩
  go_wp2_with fail
  refine BT.out.mono ?_
  rintro e w1 ⟨rfl, rfl⟩
  go_wp2_with fail
  go_ret
  exact ⟨rfl, HB2.out⟩
end Go.Proofs.YtgpojlblhaphnaaDoor
