/- YHPT -/
import Derived.Test.YtffheegeaghfjaaGreatDoorMc2
import Derived.Test.YtffheegeaghfjaaGreatDoorVr2
import Derived.Test.YtffheegeaghfjaaGreatDoorUx16
import Derived.Test.YtffheegeaghfjaaGreatDoorPkx
import Derived.Test.YtffheegeaghfjaaGreatDoorCh16
set_option linter.unusedVariables false
set_option linter.unusedSimpArgs false
set_option maxRecDepth 100000
set_option maxHeartbeats 8000000
namespace Go.Proofs.YtffheegeaghfjaaGreatDoor.Da
end Go.Proofs.YtffheegeaghfjaaGreatDoor.Da
namespace Go.Proofs.YtffheegeaghfjaaGreatDoor
open Go.RowKit
end Go.Proofs.YtffheegeaghfjaaGreatDoor

namespace Go.Proofs.YtffheegeaghfjaaGreatDoor
open Go.RowKit
theorem cblk_any (k : List UInt8) (o : Option Addr) (c : Nat) (n : Int) (A : Nat -> Addr) (w : World) (hR : RowIs w o (bytesV k) c) (hV : Cds w) (hE : Er.E10 w A) (hl : k.length <= 900000) :
    Calls Tryz.prog 51 #[.slice o k.length c, .int .i64 n] w fun e w' => ∃ x, e = .returned (.tuple #[x, errV A (Da.rb n)]) /\ RowV (Da.kres (Da.rb n) (Da.sb k n)) x w' /\ Below w.heap.size w w' :=
 (cblk_own k o c n A w hR hV hE hl).mono fun e w' ⟨x, h1, h2, h3, _⟩ => ⟨x, h1, h2, h3⟩
end Go.Proofs.YtffheegeaghfjaaGreatDoor

namespace Go.Proofs.YtffheegeaghfjaaGreatDoor
open Go.RowKit
def BkAt (k : List UInt8) (m : Nat) (q : Nat × Nat) (w : World) (a b i : Value) (wr : World) : Prop :=
 ∃ (j : Nat) (u : Nat × Nat), j <= 4 /\ i = .int .i64 ((j : Int) - 1) /\ a = .int .i64 (u.1 : Nat) /\ b = .int .i64 (u.2 : Nat) /\ Da.Hv m u /\ Da.unrs k m j u = Da.unrs k m 4 q /\ Below w.heap.size w wr
theorem sbk_any (k : List UInt8) (p m : Nat) (h10 : m <= 10) (x : Nat) (hx : x < 4 ^ m) (w : World) (hA : Arr w p 175 (bytesV (Da.fil k))) (hV : Cds w) :
    Calls Tryz.prog 93 #[.agg #[.pointer (some ⟨p, 0, none⟩), .int .i64 (m : Int)], .int .i64 (x : Int)] w fun e w' => e = .returned (.int .i64 ((Da.sbk k m x : Nat) : Int)) /\ Below w.heap.size w w' := by
 obtain ⟨b, hbe⟩ : ∃ b, w.heap.size = b := ⟨_, rfl⟩
 obtain ⟨W1, hW1⟩ : ∃ W1, w.alloc (.cells #[.pointer (some ⟨p, 0, none⟩), .int .i64 (m : Int)] 166) = W1 := ⟨_, rfl⟩
 have hb1 : Below w.heap.size w W1 := by rw [<- hW1]; exact (Below.refl _ _).alloc (Nat.le_refl _) _
 have hA1 : Arr W1 b 166 [.pointer (some ⟨p, 0, none⟩), .int .i64 (m : Int)] := by rw [<- hW1, <- hbe]; exact Arr.made _ _ _
 have HA1 := Lh hA1
 have HB1 := Lh hb1
 have HE := Lh hbe
 have HW1 := Lh hW1
 have HA := Lh (hA.later hb1 hA.lt)
 have HV := Lh (hV.later hb1)
 have HLD : Hid (W1.heap[b]? = some (.cells #[.pointer (some ⟨p, 0, none⟩), .int .i64 (m : Int)] 166 (0, 0))) := Lh hA1
 have PA := Lh (spart_any p m h10 x W1)
 have HX : Hid (Da.sbk k m x = (Da.unrs k m 4 (Da.cut2 m x)).1 * 2 ^ m + (Da.unrs k m 4 (Da.cut2 m x)).2) := Lh rfl
 have HX0 : Hid (∀ wr, Below w.heap.size w wr -> BkAt k m (Da.cut2 m x) w (.int .i64 ((x / 2 ^ m : Nat) : Int)) (.int .i64 ((x % 2 ^ m : Nat) : Int)) (.int .i64 3) wr) := Lh (fun wr hb => ⟨4, Da.cut2 m x, by omega, rfl, rfl, rfl, Da.cut2_hv hx, rfl, hb⟩)
 obtain ⟨R1, hR1⟩ : ∃ R, ((x / 2 ^ m : Nat) : Int) = R := ⟨_, rfl⟩
 obtain ⟨R2, hR2⟩ : ∃ R, ((x % 2 ^ m : Nat) : Int) = R := ⟨_, rfl⟩
 rw [hR1, hR2] at PA HX0
 clear hb1 hA1 hbe hW1 hA hV hx hR1 hR2
 go_enter Tryz.func93, Tryz.ntmps93
 go_wp2_with (first | rw [HW1.out, HE.out] | refine wpList_load_row rfl 166 (.tmp 2) rfl b rfl 166 #[.pointer (some ⟨p, 0, none⟩), .int .i64 (m : Int)] (0, 0) _ HLD.out Tryz.underlying166 rfl stp_size ?_)
 refine PA.out.mono ?_
 rintro e W2 ⟨rfl, hb2⟩
 have HB12 := Lh hb2
 have HB2 := Lh (Ks HB1.out hb2)
 clear hb2 PA HLD
 go_wp2_with fail
 go_loopw [5, 6, 7] (fun a b i wr => BkAt k m (Da.cut2 m x) w a b i wr /\ Below W1.heap.size W1 wr) (fun _ _ i _ => (intOf i + 1).toNat)
 case atStart => exact ⟨HX0.out W2 HB2.out, HB12.out⟩
 case round =>
  obtain ⟨⟨j, ⟨a, c⟩, hj, rfl, rfl, rfl, ⟨ha, hc⟩, hun, hB⟩, hB'⟩ := hrel
  dsimp only at ha hc ⊢
  have HLD : Hid (wr.heap[b]? = some (.cells #[.pointer (some ⟨p, 0, none⟩), .int .i64 (m : Int)] 166 (0, 0))) := Lh (HA1.out.later hB' HA1.out.lt)
  have HB := Lh hB
  have HB' := Lh hB'
  have HUN := Lh hun
  have hb2 := two_bd h10
  clear hB hB' hun
  by_cases hlt : 0 < j
  ·obtain ⟨r, rfl⟩ : ∃ r, j = r + 1 := ⟨j - 1, by omega⟩
   have hi : ((r + 1 : Nat) : Int) - 1 = (r : Int) := by omega
   have hd1 : decide ((r : Int) >= 0) = true := by simp
   rw [hi]
   have MX := Lh (smix_any k p m h10 r (by omega) a wr (HA.out.later HB'.out HA.out.lt) (HV.out.later HB'.out))
   have hml := Da.mx_lt k m r a
   have HHV : Hid (Da.Hv m (c ^^^ Da.mx k m r a, a)) := Lh (Da.Hv.unr (p := (a, c)) ⟨ha, hc⟩ k r)
   have HU2 : Hid (Da.unrs k m r (c ^^^ Da.mx k m r a, a) = Da.unrs k m 4 (Da.cut2 m x)) := Lh HUN.out
   obtain ⟨y, hy⟩ : ∃ y, Da.mx k m r a = y := ⟨_, rfl⟩
   rw [hy] at MX HHV HU2 hml
   have HXO := Lh (xor_i64 c y (by omega) (by omega))
   clear hy hml ha hc hb2 hi
   go_wp2_with (first | refine wpList_load_row rfl 166 (.tmp 2) rfl b rfl 166 #[.pointer (some ⟨p, 0, none⟩), .int .i64 (m : Int)] (0, 0) _ HLD.out Tryz.underlying166 rfl stp_size ?_)
   refine MX.out.mono ?_
   rintro e W3 ⟨rfl, hb3⟩
   have HB3 := Lh (Ks HB.out hb3)
   have HB3' := Lh (Ks HB'.out hb3)
   clear hb3 MX
   go_wp2_with fail
   exact ⟨⟨⟨r, _, by omega, rfl, by rw [HXO.out], rfl, HHV.out, HU2.out, HB3.out⟩, HB3'.out⟩, by simp [intOf]⟩
  ·obtain rfl : j = 0 := by omega
   have hd1 : decide (((0 : Nat) : Int) - 1 >= 0) = false := by decide
   have JO := Lh (sjoin_any p m h10 a c ha hc wr)
   have e : (a, c) = Da.unrs k m 4 (Da.cut2 m x) := HUN.out
   have hXJ : Da.sbk k m x = a * 2 ^ m + c := by rw [HX.out, <- e]
   rw [<- hXJ] at JO
   clear ha hc hb2 hXJ e
   go_wp2_with (first | refine wpList_load_row rfl 166 (.tmp 2) rfl b rfl 166 #[.pointer (some ⟨p, 0, none⟩), .int .i64 (m : Int)] (0, 0) _ HLD.out Tryz.underlying166 rfl stp_size ?_)
   refine JO.out.mono ?_
   rintro e W3 ⟨rfl, hb3⟩
   go_wp2_with fail
   go_ret
   exact ⟨rfl, Ks HB.out hb3⟩
end Go.Proofs.YtffheegeaghfjaaGreatDoor
namespace Go.Proofs.YtffheegeaghfjaaGreatDoor.Da
def inO (n : Nat) (i : Int) : Bool := decide (0 <= i) && decide (i < n)
def tv11 (f : Nat -> Nat) (n M : Nat) (i : Int) : Nat := if inO n i then pl f n M i.toNat else 0
def ob11 (n : Nat) (i : Int) : Nat := if inO n i then 0 else 1
theorem inO_iff {n : Nat} {i : Int} : inO n i = true ↔ 0 <= i /\ i < n := by simp [inO]
end Go.Proofs.YtffheegeaghfjaaGreatDoor.Da
namespace Go.Proofs.YtffheegeaghfjaaGreatDoor
open Go.RowKit
theorem owalk_any (g p : Nat) (k : List UInt8) (n : Nat) (hn : n <= 1048576) (i : Int) (A : Nat -> Addr) (w : World) (hO : OrdAt w g p k n) (hV : Cds w) (hE : Er.E11 w A) :
    Calls Tryz.prog 91 #[.pointer (some ⟨g, 0, none⟩), .func (.func 92) #[.agg #[.pointer (some ⟨p, 0, none⟩), .int .i64 (Da.bw n : Nat)]] #[], .int .i64 i] w fun e w' => e = .returned (.tuple #[.int .i64 ((Da.tv11 (Da.son k (Da.bw n)) n (4 ^ Da.bw n) i : Nat) : Int), errV A (Da.ob11 n i)]) /\ Below w.heap.size w w' := by
 have hE0 := hE.c0
 have hc := hO.size
 by_cases h0 : i < 0
 ·have hd1 : decide (i < 0) = true := by simp; omega
  have hin : Da.inO n i = false := by simp [Da.inO]; omega
  have HT : Hid (Da.tv11 (Da.son k (Da.bw n)) n (4 ^ Da.bw n) i = 0) := Lh (by unfold Da.tv11; rw [hin]; rfl)
  have hb : Da.ob11 n i = 1 := by unfold Da.ob11; rw [hin]; rfl
  rw [HT.out, hb]
  obtain ⟨m, hm⟩ : ∃ m : Int, ((Da.bw n : Nat) : Int) = m := ⟨_, rfl⟩
  rw [hm]
  clear hO hV hE hin hb HT hm
  go_enter Tryz.func91, Tryz.ntmps91
  go_wp2_with fail
  go_region
  go_wp2_with fail
  refine bodyPost_ret (results_tmp2 rfl _ _ _) rfl ?_
  exact ⟨rfl, Kit.dn' _ 1⟩
 ·have hd1 : decide (i < 0) = false := by simp; omega
  by_cases h1 : i < n
  ·have hd2 : decide (i >= (n : Int)) = false := by simp; omega
   have hin : Da.inO n i = true := Da.inO_iff.2 ⟨by omega, h1⟩
   obtain ⟨x, rfl⟩ : ∃ x : Nat, i = (x : Int) := ⟨i.toNat, by omega⟩
   have hd3 : decide (n <= x) = false := by simp; omega
   have CO := ocome_any g p k n hn x (by omega) w hO hV
   have ht : Da.pl (Da.son k (Da.bw n)) n (4 ^ Da.bw n) x = Da.tv11 (Da.son k (Da.bw n)) n (4 ^ Da.bw n) (x : Int) := by unfold Da.tv11; rw [hin]; rfl
   have hb : Da.ob11 n (x : Int) = 0 := by unfold Da.ob11; rw [hin]; rfl
   rw [ht] at CO
   rw [hb]
   obtain ⟨T, hT⟩ : ∃ T, Da.tv11 (Da.son k (Da.bw n)) n (4 ^ Da.bw n) (x : Int) = T := ⟨_, rfl⟩
   obtain ⟨m, hm⟩ : ∃ m : Int, ((Da.bw n : Nat) : Int) = m := ⟨_, rfl⟩
   rw [hT, hm] at CO
   rw [hT, hm]
   have HCO := Lh CO
   clear CO hO hV hE hin ht hb hT hm hE0 h0 h1
   go_enter Tryz.func91, Tryz.ntmps91
   go_wp2_with fail
   refine HCO.out.mono ?_
   rintro e W1 ⟨rfl, hb1⟩
   have HB1 := Lh hb1
   clear hb1 HCO
   go_wp2_with fail
   refine bodyPost_ret (results_tmp2 rfl _ _ _) rfl ?_
   exact ⟨rfl, HB1.out⟩
  ·have hd2 : decide (i >= (n : Int)) = true := by simp; omega
   have hin : Da.inO n i = false := by simp [Da.inO]; omega
   have HT : Hid (Da.tv11 (Da.son k (Da.bw n)) n (4 ^ Da.bw n) i = 0) := Lh (by unfold Da.tv11; rw [hin]; rfl)
   have hb : Da.ob11 n i = 1 := by unfold Da.ob11; rw [hin]; rfl
   rw [HT.out, hb]
   obtain ⟨m, hm⟩ : ∃ m : Int, ((Da.bw n : Nat) : Int) = m := ⟨_, rfl⟩
   rw [hm]
   clear hO hV hE hin hb HT hm
   go_enter Tryz.func91, Tryz.ntmps91
   go_wp2_with fail
   go_region
   go_wp2_with fail
   refine bodyPost_ret (results_tmp2 rfl _ _ _) rfl ?_
   exact ⟨rfl, Kit.dn' _ 1⟩
theorem oto_any (g p : Nat) (k : List UInt8) (n : Nat) (hn : n <= 1048576) (i : Int) (A : Nat -> Addr) (w : World) (hO : OrdAt w g p k n) (hV : Cds w) (hE : Er.E11 w A) :
    Calls Tryz.prog 48 #[.pointer (some ⟨g, 0, none⟩), .int .i64 i] w fun e w' => e = .returned (.tuple #[.int .i64 ((Da.tv11 (Da.son k (Da.bw n)) n (4 ^ Da.bw n) i : Nat) : Int), errV A (Da.ob11 n i)]) /\ Below w.heap.size w w' := by
 have hmf := @makes Tryz.prog
 have WA := owalk_any g p k n hn i A w hO hV hE
 have hst := hO.steps
 obtain ⟨m, hm⟩ : ∃ m : Int, ((Da.bw n : Nat) : Int) = m := ⟨_, rfl⟩
 obtain ⟨T, hT⟩ : ∃ T : Int, ((Da.tv11 (Da.son k (Da.bw n)) n (4 ^ Da.bw n) i : Nat) : Int) = T := ⟨_, rfl⟩
 rw [hT] at WA ⊢
 rw [hm] at WA hst
 have HST := Lh hst
 have HWA := Lh WA
 clear WA hO hV hE hst hm hT
 go_enter Tryz.func48, Tryz.ntmps48
 go_wp2_with (first | refine wpList_load_mid rfl 166 (.tmp 9) rfl g 1 rfl [.pointer (some ⟨p, 0, none⟩), .int .i64 m] _ HST.out Tryz.underlying166 rfl stp_size ?_)
 refine HWA.out.mono ?_
 rintro e W1 ⟨rfl, hb1⟩
 have HB1 := Lh hb1
 clear hb1 HWA
 go_wp2_with fail
 refine bodyPost_ret (results_tmp2 rfl _ _ _) rfl ?_
 exact ⟨rfl, HB1.out⟩
theorem kcome_any (g p : Nat) (k : List UInt8) (n : Nat) (hn : n <= 1048576) (x : Nat) (hx : x < n) (w : World) (hO : OrdAt w g p k n) (hV : Cds w) :
    Calls Tryz.prog 119 #[.pointer (some ⟨g, 0, none⟩), .func (.func 93) #[.agg #[.pointer (some ⟨p, 0, none⟩), .int .i64 (Da.bw n : Nat)]] #[], .int .i64 (x : Int)] w fun e w' => e = .returned (.int .i64 ((Da.pl (Da.sbk k (Da.bw n)) n (4 ^ Da.bw n) x : Nat) : Int)) /\ Below w.heap.size w w' := by
 have HO := Lh hO
 have HV := Lh hV
 have hm10 := (Da.bw_le n hn).2
 have hnM := Da.bw_ge n hn
 obtain ⟨m, hm⟩ : ∃ m, Da.bw n = m := ⟨_, rfl⟩
 have HM := Lh hm
 rw [hm] at hm10 hnM ⊢
 have hp : Da.Perm (4 ^ m) (Da.sbk k m) (Da.son k m) := (Da.sperm k m).symm
 obtain ⟨H, hM⟩ := hp.hit n x hx hnM
 have ST : Hid (∀ (y : Nat), y < 4 ^ m -> ∀ v, Below w.heap.size w v -> Calls Tryz.prog 93 #[.agg #[.pointer (some ⟨p, 0, none⟩), .int .i64 (m : Int)], .int .i64 (y : Int)] v fun e w' => e = .returned (.int .i64 ((Da.sbk k m y : Nat) : Int)) /\ Below v.heap.size v w') :=
  Lh (fun y hy v hb => sbk_any k p m hm10 y hy v (HO.out.later hb).2 (HV.out.later hb))
 have hFT : ∀ y, y < 4 ^ m -> Da.sbk k m y < 4 ^ m := hp.flt
 have hxM : x < 4 ^ m := by omega
 obtain ⟨T, hT⟩ : ∃ T, Da.pl (Da.sbk k m) n (4 ^ m) x = T := ⟨_, rfl⟩
 have hit0 : Da.it (Da.sbk k m) (Da.dst (Da.sbk k m) n (4 ^ m) (Da.sbk k m x)) (Da.sbk k m x) = T := hT
 obtain ⟨f, hf⟩ : ∃ f, Da.sbk k m = f := ⟨_, rfl⟩
 rw [hT]
 rw [hf] at H hM ST hFT hit0
 obtain ⟨M, hMM⟩ : ∃ M, 4 ^ m = M := ⟨_, rfl⟩
 rw [hMM] at H hM ST hFT hit0 hxM
 have HFT := Lh hFT
 obtain ⟨d0, hd0⟩ : ∃ d, Da.dst f n M (f x) = d := ⟨_, rfl⟩
 rw [hd0] at H hM hit0
 have HX0 : Hid (∀ wr, Below w.heap.size w wr -> Co11At f n M T w (.int .i64 ((f x : Nat) : Int)) wr) := Lh (fun wr hb => ⟨f x, d0, rfl, hFT x hxM, by omega, H, hit0, hb⟩)
 have ST0 := Lh (ST.out x hxM w (Below.refl _ _))
 obtain ⟨x1, hx1⟩ : ∃ x1, f x = x1 := ⟨_, rfl⟩
 rw [hx1] at HX0 ST0
 clear hO hV hm hnM hp H hM hFT hxM hT hit0 hf hMM hd0 hx1 hx hm10
 go_enter Tryz.func119, Tryz.ntmps119
 go_wp2_with fail
 refine ST0.out.mono ?_
 rintro e W1 ⟨rfl, hb1⟩
 have HB1 := Lh hb1
 clear hb1 ST0
 go_wp2_with fail
 go_loopw [2] (fun i wr => Co11At f n M T w i wr) (fun i _ => Da.dst f n M (intOf i).toNat)
 case atStart => exact HX0.out W1 HB1.out
 case round =>
  obtain ⟨y, d, rfl, hy, hd, hh, hi, hB⟩ := hrel
  have hc := (HO.out.later hB).size
  by_cases hlt : y < n
  ·have hd1 : decide ((y : Int) >= (n : Int)) = false := by simp; omega
   have he : y = T := by
    have := hh.here hlt
    subst this
    exact hi
   have HE := Lh he
   have HB := Lh hB
   clear hB hh hi he hy hd
   go_wp2_with fail
   go_ret
   exact ⟨by rw [<- HE.out]; rfl, HB.out⟩
  ·have hd1 : decide ((y : Int) >= (n : Int)) = true := by simp; omega
   have hdy := hh.dst hd
   obtain ⟨d', rfl, hh'⟩ := hh.step (by omega)
   have hdf := hh'.dst (q := M) (by omega)
   have ST1 := Lh (ST.out y hy wr hB)
   have HNX : Hid (∀ wr', Below w.heap.size w wr' -> Co11At f n M T w (.int .i64 ((f y : Nat) : Int)) wr') := Lh (fun wr' hb => ⟨f y, d', rfl, HFT.out y hy, by omega, hh', hi, hb⟩)
   have HDL : Hid (Da.dst f n M (f y) < Da.dst f n M y) := Lh (by rw [hdy, hdf]; omega)
   obtain ⟨y1, hy1⟩ : ∃ y1, f y = y1 := ⟨_, rfl⟩
   rw [hy1] at ST1 HNX HDL
   have HB := Lh hB
   clear hB hh hi hy hd hdy hh' hdf hy1
   go_wp2_with fail
   refine ST1.out.mono ?_
   rintro e W2 ⟨rfl, hb2⟩
   have HB2 := Lh (Ks HB.out hb2)
   clear hb2 ST1
   go_wp2_with fail
   exact ⟨HNX.out W2 HB2.out, by simp only [intOf, Int.toNat_natCast]; exact HDL.out⟩
theorem kwalk_any (g p : Nat) (k : List UInt8) (n : Nat) (hn : n <= 1048576) (i : Int) (A : Nat -> Addr) (w : World) (hO : OrdAt w g p k n) (hV : Cds w) (hE : Er.E11 w A) :
    Calls Tryz.prog 91 #[.pointer (some ⟨g, 0, none⟩), .func (.func 93) #[.agg #[.pointer (some ⟨p, 0, none⟩), .int .i64 (Da.bw n : Nat)]] #[], .int .i64 i] w fun e w' => e = .returned (.tuple #[.int .i64 ((Da.tv11 (Da.sbk k (Da.bw n)) n (4 ^ Da.bw n) i : Nat) : Int), errV A (Da.ob11 n i)]) /\ Below w.heap.size w w' := by
 have hE0 := hE.c0
 have hc := hO.size
 by_cases h0 : i < 0
 ·have hd1 : decide (i < 0) = true := by simp; omega
  have hin : Da.inO n i = false := by simp [Da.inO]; omega
  have HT : Hid (Da.tv11 (Da.sbk k (Da.bw n)) n (4 ^ Da.bw n) i = 0) := Lh (by unfold Da.tv11; rw [hin]; rfl)
  have hb : Da.ob11 n i = 1 := by unfold Da.ob11; rw [hin]; rfl
  rw [HT.out, hb]
  obtain ⟨m, hm⟩ : ∃ m : Int, ((Da.bw n : Nat) : Int) = m := ⟨_, rfl⟩
  rw [hm]
  clear hO hV hE hin hb HT hm
  go_enter Tryz.func91, Tryz.ntmps91
  go_wp2_with fail
  go_region
  go_wp2_with fail
  refine bodyPost_ret (results_tmp2 rfl _ _ _) rfl ?_
  exact ⟨rfl, Kit.dn' _ 1⟩
 ·have hd1 : decide (i < 0) = false := by simp; omega
  by_cases h1 : i < n
  ·have hd2 : decide (i >= (n : Int)) = false := by simp; omega
   have hin : Da.inO n i = true := Da.inO_iff.2 ⟨by omega, h1⟩
   obtain ⟨x, rfl⟩ : ∃ x : Nat, i = (x : Int) := ⟨i.toNat, by omega⟩
   have hd3 : decide (n <= x) = false := by simp; omega
   have CO := kcome_any g p k n hn x (by omega) w hO hV
   have ht : Da.pl (Da.sbk k (Da.bw n)) n (4 ^ Da.bw n) x = Da.tv11 (Da.sbk k (Da.bw n)) n (4 ^ Da.bw n) (x : Int) := by unfold Da.tv11; rw [hin]; rfl
   have hb : Da.ob11 n (x : Int) = 0 := by unfold Da.ob11; rw [hin]; rfl
   rw [ht] at CO
   rw [hb]
   obtain ⟨T, hT⟩ : ∃ T, Da.tv11 (Da.sbk k (Da.bw n)) n (4 ^ Da.bw n) (x : Int) = T := ⟨_, rfl⟩
   obtain ⟨m, hm⟩ : ∃ m : Int, ((Da.bw n : Nat) : Int) = m := ⟨_, rfl⟩
   rw [hT, hm] at CO
   rw [hT, hm]
   have HCO := Lh CO
   clear CO hO hV hE hin ht hb hT hm hE0 h0 h1
   go_enter Tryz.func91, Tryz.ntmps91
   go_wp2_with fail
   refine HCO.out.mono ?_
   rintro e W1 ⟨rfl, hb1⟩
   have HB1 := Lh hb1
   clear hb1 HCO
   go_wp2_with fail
   refine bodyPost_ret (results_tmp2 rfl _ _ _) rfl ?_
   exact ⟨rfl, HB1.out⟩
  ·have hd2 : decide (i >= (n : Int)) = true := by simp; omega
   have hin : Da.inO n i = false := by simp [Da.inO]; omega
   have HT : Hid (Da.tv11 (Da.sbk k (Da.bw n)) n (4 ^ Da.bw n) i = 0) := Lh (by unfold Da.tv11; rw [hin]; rfl)
   have hb : Da.ob11 n i = 1 := by unfold Da.ob11; rw [hin]; rfl
   rw [HT.out, hb]
   obtain ⟨m, hm⟩ : ∃ m : Int, ((Da.bw n : Nat) : Int) = m := ⟨_, rfl⟩
   rw [hm]
   clear hO hV hE hin hb HT hm
   go_enter Tryz.func91, Tryz.ntmps91
   go_wp2_with fail
   go_region
   go_wp2_with fail
   refine bodyPost_ret (results_tmp2 rfl _ _ _) rfl ?_
   exact ⟨rfl, Kit.dn' _ 1⟩
theorem kfrom_any (g p : Nat) (k : List UInt8) (n : Nat) (hn : n <= 1048576) (i : Int) (A : Nat -> Addr) (w : World) (hO : OrdAt w g p k n) (hV : Cds w) (hE : Er.E11 w A) :
    Calls Tryz.prog 49 #[.pointer (some ⟨g, 0, none⟩), .int .i64 i] w fun e w' => e = .returned (.tuple #[.int .i64 ((Da.tv11 (Da.sbk k (Da.bw n)) n (4 ^ Da.bw n) i : Nat) : Int), errV A (Da.ob11 n i)]) /\ Below w.heap.size w w' := by
 have hmf := @makes Tryz.prog
 have WA := kwalk_any g p k n hn i A w hO hV hE
 have hst := hO.steps
 obtain ⟨m, hm⟩ : ∃ m : Int, ((Da.bw n : Nat) : Int) = m := ⟨_, rfl⟩
 obtain ⟨T, hT⟩ : ∃ T : Int, ((Da.tv11 (Da.sbk k (Da.bw n)) n (4 ^ Da.bw n) i : Nat) : Int) = T := ⟨_, rfl⟩
 rw [hT] at WA ⊢
 rw [hm] at WA hst
 have HST := Lh hst
 have HWA := Lh WA
 clear WA hO hV hE hst hm hT
 go_enter Tryz.func49, Tryz.ntmps49
 go_wp2_with (first | refine wpList_load_mid rfl 166 (.tmp 9) rfl g 1 rfl [.pointer (some ⟨p, 0, none⟩), .int .i64 m] _ HST.out Tryz.underlying166 rfl stp_size ?_)
 refine HWA.out.mono ?_
 rintro e W1 ⟨rfl, hb1⟩
 have HB1 := Lh hb1
 clear hb1 HWA
 go_wp2_with fail
 refine bodyPost_ret (results_tmp2 rfl _ _ _) rfl ?_
 exact ⟨rfl, HB1.out⟩
theorem Da.tv_in (f : Nat -> Nat) (n M x : Nat) (h : x < n) : tv11 f n M (x : Int) = pl f n M x /\ ob11 n (x : Int) = 0 := by
 have hin : inO n (x : Int) = true := inO_iff.2 ⟨by omega, by omega⟩
 unfold tv11 ob11
 rw [hin]
 exact ⟨rfl, rfl⟩
theorem oto_in (g p : Nat) (k : List UInt8) (n : Nat) (hn : n <= 1048576) (x : Nat) (hx : x < n) (A : Nat -> Addr) (w : World) (hO : OrdAt w g p k n) (hV : Cds w) (hE : Er.E11 w A) :
    Calls Tryz.prog 48 #[.pointer (some ⟨g, 0, none⟩), .int .i64 (x : Int)] w fun e w' => e = .returned (.tuple #[.int .i64 ((Da.pto k n x : Nat) : Int), .nilIface]) /\ Below w.heap.size w w' := by
 have := oto_any g p k n hn (x : Int) A w hO hV hE
 rw [(Da.tv_in _ n _ x hx).1, (Da.tv_in (Da.son k (Da.bw n)) n (4 ^ Da.bw n) x hx).2] at this
 exact this
end Go.Proofs.YtffheegeaghfjaaGreatDoor

namespace Go.Proofs.YtffheegeaghfjaaGreatDoor
open Go.RowKit
def Da.tgd16 (k : List UInt8) (n : Int) (b : List UInt8) : Bool := decide (b.length = 16) && (decide (0 <= n) && (decide (n < 512) && decide (Da.tg16 k n (b.take 8) = b)))
def Da.tbad16 (K : List UInt8) (N : Int) (n : Int) (l : Nat) : Nat :=
 if Da.abad (Da.isMas K.length) (Da.inR N) = 0 then (if 0 <= n /\ n < 512 then (if l = 8 then 0 else 8) else 1) else Da.abad (Da.isMas K.length) (Da.inR N)
def Da.pbad16 (K : List UInt8) (N : Int) (p : Pm15) (i : Int) : Nat := if Da.abad (Da.isMas K.length) (Da.inR N) = 0 then Da.ob11 (Da.n16 p) i else Da.abad (Da.isMas K.length) (Da.inR N)
def Da.jbad16 (K : List UInt8) (N : Int) (p : Pm15) (j : Int) : Nat := if Da.abad (Da.isMas K.length) (Da.inR N) = 0 then (if 0 <= j /\ j < p.se then 0 else 18) else Da.abad (Da.isMas K.length) (Da.inR N)
def Da.jat16 (K : List UInt8) (N : Int) (p : Pm15) (j : Int) : Nat := Da.to16 K N p (Da.tot15 p.sz + j.toNat)
structure SlC (A : Nat -> Addr) : Prop where
 sl : SlM A
 place : ∀ (W : World) (oK : Option Addr) (cK : Nat) (K : List UInt8) (N : Int) (p : Pm15) (i : Int), RowIs W oK (bytesV K) cK -> K.length <= 100 -> in64 N -> in64 i -> p.ok -> Cds W -> E16 W A ->
  Calls Tryz.prog 18 #[.slice oK K.length cK, .int .i64 N, .agg (pmA p), .int .i64 i] W fun e w' => ∃ v, e = .returned (.tuple #[.int .i64 ((if Da.sen16 p (Da.pbad16 K N p i) = 0 then Da.to16 K N p i.toNat else 0 : Nat) : Int), v]) /\ SeV A p (Da.pbad16 K N p i) w' v /\ Below W.heap.size W w'
 back : ∀ (W : World) (oK : Option Addr) (cK : Nat) (K : List UInt8) (N : Int) (p : Pm15) (i : Int), RowIs W oK (bytesV K) cK -> K.length <= 100 -> in64 N -> in64 i -> p.ok -> Cds W -> E16 W A ->
  Calls Tryz.prog 19 #[.slice oK K.length cK, .int .i64 N, .agg (pmA p), .int .i64 i] W fun e w' => ∃ v, e = .returned (.tuple #[.int .i64 ((if Da.sen16 p (Da.pbad16 K N p i) = 0 then Da.fr16 K N p i.toNat else 0 : Nat) : Int), v]) /\ SeV A p (Da.pbad16 K N p i) w' v /\ Below W.heap.size W w'
 sentinel : ∀ (W : World) (oK : Option Addr) (cK : Nat) (K : List UInt8) (N : Int) (p : Pm15) (j : Int), RowIs W oK (bytesV K) cK -> K.length <= 100 -> in64 N -> in64 j -> p.ok -> Cds W -> E16 W A ->
  Calls Tryz.prog 20 #[.slice oK K.length cK, .int .i64 N, .agg (pmA p), .int .i64 j] W fun e w' => ∃ x v, e = .returned (.tuple #[.int .i64 ((if Da.sen16 p (Da.jbad16 K N p j) = 0 then Da.jat16 K N p j else 0 : Nat) : Int), x, v]) /\
   RowV (if Da.sen16 p (Da.jbad16 K N p j) = 0 then Da.tg16 (Da.key16 K N 3) ((Da.jat16 K N p j : Nat) : Int) (Da.sb (Da.key16 K N 2) j) else []) x w' /\ SeV A p (Da.jbad16 K N p j) w' v /\ Below W.heap.size W w'
 tagged : ∀ (W : World) (oK : Option Addr) (cK : Nat) (K : List UInt8) (N n : Int) (oB : Option Addr) (cB : Nat) (B : List UInt8), RowIs W oK (bytesV K) cK -> RowIs W oB (bytesV B) cB -> K.length <= 100 -> B.length <= 60 -> in64 N -> in64 n -> Cds W -> E16 W A ->
  Calls Tryz.prog 26 #[.slice oK K.length cK, .int .i64 N, .int .i64 n, .slice oB B.length cB] W fun e w' => e = .returned (.tuple #[.bool (if Da.abad (Da.isMas K.length) (Da.inR N) = 0 then Da.tgd16 (Da.key16 K N 3) n B else false), errV A (Da.abad (Da.isMas K.length) (Da.inR N))]) /\ Below W.heap.size W w'
 tag : ∀ (W : World) (oK : Option Addr) (cK : Nat) (K : List UInt8) (N n : Int) (oB : Option Addr) (cB : Nat) (B : List UInt8), RowIs W oK (bytesV K) cK -> RowIs W oB (bytesV B) cB -> K.length <= 100 -> B.length <= 60 -> in64 N -> in64 n -> Cds W -> E16 W A ->
  Calls Tryz.prog 25 #[.slice oK K.length cK, .int .i64 N, .int .i64 n, .slice oB B.length cB] W fun e w' => ∃ x, e = .returned (.tuple #[x, errV A (Da.tbad16 K N n B.length)]) /\ RowV (if Da.tbad16 K N n B.length = 0 then Da.tg16 (Da.key16 K N 3) n B else []) x w' /\ Below W.heap.size W w'
 parts : ∀ (W : World) (oB : Option Addr) (cB : Nat) (B : List UInt8), RowIs W oB (bytesV B) cB -> B.length <= 60 -> E16 W A ->
  Calls Tryz.prog 27 #[.slice oB B.length cB] W fun e w' => ∃ x y, e = .returned (.tuple #[x, y, errV A (if B.length = 16 then 0 else 8)]) /\ RowV (if B.length = 16 then B.take 8 else []) x w' /\ RowV (if B.length = 16 then B.drop 8 else []) y w' /\ Below W.heap.size W w'
end Go.Proofs.YtffheegeaghfjaaGreatDoor

namespace Go.Proofs.YtffheegeaghfjaaGreatDoor
open Go.RowKit
theorem beq_dec16 (a b : List UInt8) : (a == b) = decide (a = b) := by
 by_cases h : a = b
 ·subst h; simp
 ·simp [h]
end Go.Proofs.YtffheegeaghfjaaGreatDoor

namespace Go.Proofs.YtffheegeaghfjaaGreatDoor
open Go.RowKit
theorem isp16_any (n : Int) (w : World) : Calls Tryz.prog 57 #[.int .i64 n] w fun e w' => e = .returned (.bool (decide (0 <= n) && decide (n < 512))) /\ w' = w := by
 by_cases h1 : 0 <= n
 ·have hd1 : decide (n >= 0) = true := decide_eq_true h1
  by_cases h2 : n < 512
  ·have hd2 : decide (n < 512) = true := decide_eq_true h2
   have hr : (decide (0 <= n) && decide (n < 512)) = true := by rw [decide_eq_true h1, hd2]; rfl
   rw [hr]
   clear hr
   go_enter Tryz.func57, Tryz.ntmps57
   go_wp2_with fail
   go_ret
   exact ⟨rfl, rfl⟩
  ·have hd2 : decide (n < 512) = false := decide_eq_false h2
   have hr : (decide (0 <= n) && decide (n < 512)) = false := by rw [hd2, Bool.and_false]
   rw [hr]
   clear hr
   go_enter Tryz.func57, Tryz.ntmps57
   go_wp2_with fail
   go_ret
   exact ⟨rfl, rfl⟩
 ·have hd1 : decide (n >= 0) = false := decide_eq_false h1
  have hr : (decide (0 <= n) && decide (n < 512)) = false := by rw [decide_eq_false h1, Bool.false_and]
  rw [hr]
  clear hr
  go_enter Tryz.func57, Tryz.ntmps57
  go_wp2_with fail
  go_ret
  exact ⟨rfl, rfl⟩
theorem tagged16_any (k B : List UInt8) (b : Nat) (n : Int) (o : Option Addr) (c : Nat) (w : World) (hA : Arr w b 175 (bytesV (Da.fil k))) (hB : RowIs w o (bytesV B) c) (hV : Cds w) (hl : B.length <= 1000) :
    Calls Tryz.prog 52 #[.pointer (some ⟨b, 0, none⟩), .int .i64 n, .slice o B.length c] w fun e w' => ∃ x, e = .returned x /\ RowV (Da.tg16 k n B) x w' /\ Below w.heap.size w w' :=
 (tagged16_new k B b n o c w hA hB hV hl).mono fun e w' ⟨g, cap, h1, _, h2, h3⟩ => ⟨_, h1, h2, h3⟩
theorem parts16_any (A : Nat -> Addr) (W : World) (oB : Option Addr) (cB : Nat) (B : List UInt8) (hB : RowIs W oB (bytesV B) cB) (hl : B.length <= 60) (hE : E16 W A) :
    Calls Tryz.prog 27 #[.slice oB B.length cB] W fun e w' => ∃ x y, e = .returned (.tuple #[x, y, errV A (if B.length = 16 then 0 else 8)]) /\ RowV (if B.length = 16 then B.take 8 else []) x w' /\ RowV (if B.length = 16 then B.drop 8 else []) y w' /\ Below W.heap.size W w' := by
 have hc7 := hE.c7
 by_cases h16 : B.length = 16
 ·rw [if_pos h16, if_pos h16, if_pos h16, h16]
  obtain ⟨bb, off, rfl, hlt, _⟩ := hB.cells (by simp [h16])
  have hle := hB.le
  have hca := hB.cap
  rw [bytesV_length, h16] at hle
  unfold maxLen at hca
  have hr1 : RowIs W (some ⟨bb, off, none⟩) (bytesV (B.take 8)) cB := by
   have := hB.part 0 8 (by simp [h16]) cB (by omega) hB.cap
   simpa [bytesV, List.map_take] using this
  have hr2 : RowIs W (some ⟨bb, off + 8, none⟩) (bytesV (B.drop 8)) (cB - 8) := by
   have := hB.part 8 8 (by simp [h16]) (cB - 8) (by omega) (by have := hB.cap; omega)
   rw [show (bytesV B).drop 8 = bytesV (B.drop 8) by simp [bytesV, List.map_drop], List.take_of_length_le (by simp [h16])] at this
   exact this
  have h1l : (B.take 8).length = 8 := by rw [List.length_take, h16]; rfl
  have h2l : (B.drop 8).length = 8 := by rw [List.length_drop, h16]
  have CL1 : Hid (∀ v, Below W.heap.size W v -> Calls Tryz.prog 60 #[.slice (some ⟨bb, off, none⟩) 8 cB] v fun e w' => ∃ x, e = .returned x /\ RowV (B.take 8) x w' /\ Below v.heap.size v w') := Lh fun v hv => by
   have := clone_own (B.take 8) _ cB v (hr1.later hv) (by omega) (by omega)
   rw [h1l] at this
   exact this.mono fun e w' ⟨g, cap, h1, _, h2, h3⟩ => ⟨_, h1, ⟨_, cap, rfl, h2.row⟩, h3⟩
  have CL2 : Hid (∀ v, Below W.heap.size W v -> Calls Tryz.prog 60 #[.slice (some ⟨bb, off + 8, none⟩) 8 (cB - 8)] v fun e w' => ∃ x, e = .returned x /\ RowV (B.drop 8) x w' /\ Below v.heap.size v w') := Lh fun v hv => by
   have := clone_own (B.drop 8) _ (cB - 8) v (hr2.later hv) (by omega) (by omega)
   rw [h2l] at this
   exact this.mono fun e w' ⟨g, cap, h1, _, h2, h3⟩ => ⟨_, h1, ⟨_, cap, rfl, h2.row⟩, h3⟩
  obtain ⟨CC, hC⟩ : ∃ CC : World -> Prop, (fun v => Below W.heap.size W v) = CC := ⟨_, rfl⟩
  have HCm : Hid (∀ v, CC v -> Below W.heap.size W v) := Lh fun v hv => by rw [<- hC] at hv; exact hv
  have HCi : Hid (∀ v, Below W.heap.size W v -> CC v) := Lh fun v hv => by rw [<- hC]; exact hv
  have hCC : CC { W with drawn := W.drawn + 1 } := HCi.out _ (Kit.dn' W 1)
  have hne : cB ≠ 8 := by omega
  have hc8 : ¬ ((cB : Int) < 8) := by omega
  have hc9 : ¬ ((16 : Int) < 8) := by omega
  clear hB hlt hr1 hr2 h1l h2l hC hl hE hc7 h16
  go_enter Tryz.func27, Tryz.ntmps27
  go_upto_region 3 with fail
  refine wp_region_held (S := CC) (by kernel_rfl) ?_
  refine takeH16 (i := 0) (x := .slice (some ⟨bb, off, none⟩) 16 cB) rfl rfl (by kernel_rfl) (by kernel_rfl) (by kernel_rfl) (fun _ _ _ h => h) (Or.inl ⟨by kernel_rfl, fun w hw => by (go_simp <;> with_reducible rfl)⟩) hCC ?_
  simp only [List.setIfInBounds_toArray, List.set_cons_zero, List.set_cons_succ]
  refine takeH16 (i := 1) (x := .slice (some ⟨bb, off, none⟩) 8 cB) rfl rfl (by kernel_rfl) (by kernel_rfl) (by kernel_rfl) (fun _ _ _ h => h) (Or.inl ⟨by kernel_rfl, fun w hw => by (go_simp <;> with_reducible rfl)⟩) hCC ?_
  simp only [List.setIfInBounds_toArray, List.set_cons_zero, List.set_cons_succ]
  refine takeH16 (i := 3) (x := .slice (some ⟨bb, off, none⟩) 16 cB) rfl rfl (by kernel_rfl) (by kernel_rfl) (by kernel_rfl) (fun _ _ _ h => h) (Or.inl ⟨by kernel_rfl, fun w hw => by (go_simp <;> with_reducible rfl)⟩) hCC ?_
  simp only [List.setIfInBounds_toArray, List.set_cons_zero, List.set_cons_succ]
  refine takeH16 (i := 4) (x := .slice (some ⟨bb, off + 8, none⟩) 8 (cB - 8)) rfl rfl (by kernel_rfl) (by kernel_rfl) (by kernel_rfl) (fun _ _ _ h => h) (Or.inl ⟨by kernel_rfl, fun w hw => by (go_simp <;> with_reducible rfl)⟩) hCC ?_
  simp only [List.setIfInBounds_toArray, List.set_cons_zero, List.set_cons_succ]
  refine readyH16 (i := 2) (by kernel_rfl) rfl (by kernel_rfl) (fun K hK => ?_)
  go_simp
  refine (CL1.out _ (HCm.out _ hCC)).mono ?_
  rintro e Y1 ⟨x, rfl, hx, hb⟩
  have HX1 := Lh hx
  have hCC1 := HCi.out _ (Ks (HCm.out _ hCC) hb)
  refine hK _ _ hCC1 ?_
  clear hK K hCC hx hb CL1
  refine readyH16 (i := 5) (by kernel_rfl) rfl (by kernel_rfl) (fun K hK => ?_)
  go_simp
  refine (CL2.out _ (HCm.out _ hCC1)).mono ?_
  rintro e Y2 ⟨y, rfl, hy, hb⟩
  have HY2 := Lh hy
  have HX2 := Lh (HX1.out.later hb)
  have hCC2 := HCi.out _ (Ks (HCm.out _ hCC1) hb)
  refine hK _ _ hCC2 ?_
  clear hK K hCC1 hy hb CL2
  refine takeH16 (i := 6) (x := x) rfl rfl (by kernel_rfl) (by kernel_rfl) (by kernel_rfl) (fun _ _ _ h => h) (Or.inl ⟨by kernel_rfl, fun w hw => by (go_simp <;> with_reducible rfl)⟩) hCC2 ?_
  simp only [List.setIfInBounds_toArray, List.set_cons_zero, List.set_cons_succ]
  refine takeH16 (i := 7) (x := y) rfl rfl (by kernel_rfl) (by kernel_rfl) (by kernel_rfl) (fun _ _ _ h => h) (Or.inl ⟨by kernel_rfl, fun w hw => by (go_simp <;> with_reducible rfl)⟩) hCC2 ?_
  simp only [List.setIfInBounds_toArray, List.set_cons_zero, List.set_cons_succ]
  refine takeH16 (i := 8) (x := .nilIface) rfl rfl (by kernel_rfl) (by kernel_rfl) (by kernel_rfl) (fun _ _ _ h => h) (Or.inl ⟨by kernel_rfl, fun w hw => by (go_simp <;> with_reducible rfl)⟩) hCC2 ?_
  simp only [List.setIfInBounds_toArray, List.set_cons_zero, List.set_cons_succ]
  refine wpAnyH_done (by kernel_rfl) ?_ _
  have HB2 := Lh (HCm.out _ hCC2)
  clear hCC2
  go_wp2_with fail
  refine bodyPost_ret (results_tmp3 rfl _ _ _) rfl ?_
  exact ⟨x, y, rfl, HX2.out, HY2.out, HB2.out⟩
 ·rw [if_neg h16, if_neg h16, if_neg h16]
  obtain ⟨L, hL⟩ : ∃ L, B.length = L := ⟨_, rfl⟩
  rw [hL] at h16 ⊢
  have hq1 : ((L : Int) != 16) = true := by rw [bne_iff_ne]; omega
  have hq2 : ((L : Int) == 16) = false := beq_false_of_ne (by omega)
  clear hB hL hE hl
  go_enter Tryz.func27, Tryz.ntmps27
  go_upto_region 2 with fail
  go_quiet (fail)
  go_wp2_with fail
  refine bodyPost_ret (results_tmp3 rfl _ _ _) rfl ?_
  exact ⟨.slice none 0 0, .slice none 0 0, rfl, RowV.nil _, RowV.nil _, Kit.dn' _ _⟩
theorem Da.tgd16_right (k B : List UInt8) (n : Int) (h16 : B.length = 16) (h0 : 0 <= n) (h1 : n < 512) : (B.drop 8 == (Da.hmac k (Da.num8 n ++ B.take 8)).take 8) = Da.tgd16 k n B := by
 unfold Da.tgd16 Da.tg16
 rw [decide_eq_true h16, decide_eq_true h0, decide_eq_true h1, Bool.true_and, Bool.true_and, Bool.true_and, beq_dec16]
 have e : B = B.take 8 ++ B.drop 8 := (List.take_append_drop 8 B).symm
 congr 1
 apply propext
 constructor
 ·intro h
  rw [<- h]
  exact e.symm
 ·intro h
  have h2 : B.take 8 ++ (Da.hmac k (Da.num8 n ++ B.take 8)).take 8 = B.take 8 ++ B.drop 8 := h.trans e
  exact (List.append_cancel_left h2).symm
theorem tag16c_of (ZK : Array Value) (hZK : nil5.toArray = ZK) (hzk : ∀ w, Sem.run Tryz.prog (zeroValue 76) w = .ok (.agg ZK) w) (A : Nat -> Addr) (W : World) (oK : Option Addr) (cK : Nat) (K9 : List UInt8) (N n : Int) (oB : Option Addr) (cB : Nat) (B : List UInt8) (hK9 : RowIs W oK (bytesV K9) cK) (hB : RowIs W oB (bytesV B) cB) (hKl : K9.length <= 100) (hBl : B.length <= 60) (hN : in64 N) (hn : in64 n) (hV : Cds W) (hE : E16 W A) :
    Calls Tryz.prog 25 #[.slice oK K9.length cK, .int .i64 N, .int .i64 n, .slice oB B.length cB] W fun e w' => ∃ x, e = .returned (.tuple #[x, errV A (Da.tbad16 K9 N n B.length)]) /\ RowV (if Da.tbad16 K9 N n B.length = 0 then Da.tg16 (Da.key16 K9 N 3) n B else []) x w' /\ Below W.heap.size W w' := by
 have hla := lall_anyA K9 oK cK N A W hK9 hV hE.e9 (by omega)
 obtain ⟨k, hk⟩ : ∃ k, Da.abad (Da.isMas K9.length) (Da.inR N) = k := ⟨_, rfl⟩
 obtain ⟨lk, hlk⟩ : ∃ lk, K9.length = lk := ⟨_, rfl⟩
 obtain ⟨L, hL⟩ : ∃ L, B.length = L := ⟨_, rfl⟩
 rw [hk] at hla
 rw [hlk] at hla ⊢
 rw [hL] at ⊢
 have HLA := Lh hla
 have HK := Lh hk
 have HL := Lh hL
 have HBR := Lh hB
 have HV := Lh hV
 have HE := Lh hE
 have HZK := Lh hZK
 have HBL := Lh hBl
 have hnn := neq_nil
 clear hla hk hL hB hV hE hZK hK9 hBl hlk hKl hN
 obtain ⟨tb, htb⟩ : ∃ tb, Da.tbad16 K9 N n L = tb := ⟨_, rfl⟩
 rw [htb]
 obtain ⟨RS, hRS⟩ : ∃ RS, (if tb = 0 then Da.tg16 (Da.key16 K9 N 3) n B else []) = RS := ⟨_, rfl⟩
 rw [hRS]
 have HTB := Lh htb
 have HRS := Lh hRS
 clear htb hRS
 go_enter Tryz.func25, Tryz.ntmps25
 go_upto_region 1 with fail
 apply wp_region_lit
 iterate 2 (refine wpList_plain rfl (fun K hK => ?_); go_simp; refine hK _ _ ?_; clear hK K)
 (refine wpList_plain rfl (fun K hK => ?_); go_simp)
 refine HLA.out.mono ?_
 rintro e V2 ⟨xs, rfl, hx, hb2⟩
 refine hK _ _ ?_
 clear hK K HLA
 obtain ⟨gk, hgk⟩ : ∃ gk, V2.heap.size = gk := ⟨_, rfl⟩
 obtain ⟨FA, hFA⟩ : ∃ FA : Array Value, xs.toArray = FA := ⟨_, rfl⟩
 have h5 : xs.length = 5 := hx.len.trans (Da.ares_five _ _ _)
 have HFS : Hid ((Tryz.prog.info? 76).map (·.size) = some FA.size) := Lh (by rw [lk_info, <- hFA]; simp [h5])
 have HFZ : Hid (ZK.size = FA.size) := Lh (by rw [<- HZK.out, <- hFA]; simp [h5, nil5])
 have HFO : Hid (FA.all (·.oneCell') = true) := Lh (by rw [<- hFA]; exact els_cells16 hx)
 obtain ⟨V3, hV3⟩ : ∃ V3, V2.alloc (.cells ZK 76) = V3 := ⟨_, rfl⟩
 have hz3 : V3.heap[gk]? = some (.cells ZK 76 (0, 0)) := by rw [<- hV3, <- hgk]; exact World.alloc_heap_new V2 _
 obtain ⟨V4, hV4⟩ : ∃ V4, V3.setRow gk FA = V4 := ⟨_, rfl⟩
 have hA4 : Arr V4 gk 76 xs := by rw [<- hV4]; unfold Arr; rw [hFA]; exact setRow_heap _ _ _ _ _ _ hz3
 have hb4 : Below V2.heap.size V2 V4 := by rw [<- hV4, <- hV3]; exact (new12 _ _).trans (below_row (Nat.le_of_eq hgk))
 have HX4 := Lh (hx.later hb4)
 have HA4 := Lh hA4
 have HZ3 := Lh hz3
 have HV3 := Lh hV3
 have HV4 := Lh hV4
 have HGK := Lh hgk
 have HFA := Lh hFA
 rw [hFA]
 have HB4 := Lh (Ks hb2 hb4)
 clear hx hb2 hgk hFA h5 hV3 hz3 hV4 hA4 hb4
 iterate 4 (refine wpList_plain rfl (fun K hK => ?_); go_simp; refine hK _ _ ?_; clear hK K)
 rw [HV3.out, HGK.out]
 refine wpList_store_rowTo rfl 76 (.tmp 10) (.tmp 16) rfl rfl gk FA rfl rfl 76 ZK HZ3.out HFS.out HFZ.out HFO.out ?_
 rw [HV4.out]
 clear HV3 HV4 HZ3 HGK
 (refine wpList_plain rfl (fun K hK => ?_); go_simp; refine hK _ _ ?_; clear hK K)
 by_cases h0 : k = 0
 rotate_left
 ·have htb : tb = k := by rw [<- HTB.out]; unfold Da.tbad16; rw [HK.out, if_neg h0]
  have HTK := Lh htb
  clear htb
  obtain ⟨a1, ha1⟩ := errV_succ A k h0
  rw [ha1]
  have HA1 := Lh ha1
  have H0 := Lh h0
  clear ha1 h0
  go_wp2_with fail
  refine bodyPost_ret (results_tmp2 rfl _ _ _) rfl ?_
  refine ⟨.slice none 0 0, by rw [HTK.out, HA1.out]; rfl, ?_, HB4.out⟩
  rw [<- HRS.out, if_neg (by rw [HTK.out]; exact H0.out)]
  exact RowV.nil _
 subst h0
 rw [errV_nil]
 go_upto_region 4 with fail
 apply wp_region_lit
 (refine wpList_plain rfl (fun K hK => ?_); go_simp; refine hK _ _ ?_; clear hK K)
 (refine wpList_plain rfl (fun K hK => ?_); go_simp)
 refine (isp16_any n _).mono ?_
 rintro e w1 ⟨rfl, rfl⟩
 refine hK _ _ ?_
 clear hK K
 rename World => V4
 by_cases hp : 0 <= n /\ n < 512
 rotate_left
 ·have hpb : (decide (0 <= n) && decide (n < 512)) = false := by
   rw [Bool.eq_false_iff]
   intro h
   rw [Bool.and_eq_true, decide_eq_true_eq, decide_eq_true_eq] at h
   exact hp h
  rw [hpb]
  have htb : tb = 1 := by rw [<- HTB.out]; unfold Da.tbad16; rw [HK.out, if_pos rfl, if_neg hp]
  have HTK := Lh htb
  have hc0 := (HE.out.later HB4.out).c0
  clear htb hp hpb
  (refine wpList_plain rfl (fun K hK => ?_); go_simp; refine hK _ _ ?_; clear hK K)
  go_upto_region 5 with fail
  go_quiet (fail)
  go_wp2_with fail
  refine bodyPost_ret (results_tmp2 rfl _ _ _) rfl ?_
  refine ⟨.slice none 0 0, by rw [HTK.out]; rfl, ?_, Ks HB4.out (Kit.dn' _ _)⟩
  rw [<- HRS.out, if_neg (by rw [HTK.out]; omega)]
  exact RowV.nil _
 have hpb : (decide (0 <= n) && decide (n < 512)) = true := by rw [decide_eq_true hp.1, decide_eq_true hp.2]; rfl
 rw [hpb]
 have HP := Lh hp
 clear hpb hp
 (refine wpList_plain rfl (fun K hK => ?_); go_simp; refine hK _ _ ?_; clear hK K)
 by_cases h8 : L = 8
 rotate_left
 ·have hq1 : ((L : Int) != 8) = true := by rw [bne_iff_ne]; omega
  have hq2 : ((L : Int) == 8) = false := beq_false_of_ne (by omega)
  have htb : tb = 8 := by rw [<- HTB.out]; unfold Da.tbad16; rw [HK.out, if_pos rfl, if_pos HP.out, if_neg h8]
  have HTK := Lh htb
  have hc7 := (HE.out.later HB4.out).c7
  clear htb h8
  go_upto_region 7 with fail
  go_quiet (fail)
  go_wp2_with fail
  refine bodyPost_ret (results_tmp2 rfl _ _ _) rfl ?_
  refine ⟨.slice none 0 0, by rw [HTK.out]; rfl, ?_, Ks HB4.out (Kit.dn' _ _)⟩
  rw [<- HRS.out, if_neg (by rw [HTK.out]; omega)]
  exact RowV.nil _
 subst h8
 have htb : tb = 0 := by rw [<- HTB.out]; unfold Da.tbad16; rw [HK.out, if_pos rfl, if_pos HP.out, if_pos rfl]
 have HTK := Lh htb
 clear htb
 have hx4 : Els V4 (Da.keysL K9 N) xs := HX4.out
 obtain ⟨x3, hx3, hr3⟩ := hx4.key16 3 (by omega)
 have hk3l := Da.key16_length K9 N 3 (by omega)
 obtain ⟨o3, c3, rfl, hr3⟩ := hr3
 have hmk := kmake_any (Da.key16 K9 N 3) o3 c3 V4 hr3 (HV.out.later HB4.out) (by rw [hk3l]; omega)
 rw [hk3l] at hmk hx3
 have hc3 : V4.cell? ⟨gk, 3, none⟩ = some (.slice o3 32 c3) := by rw [HA4.out.cell]; exact hx3
 have HMK := Lh hmk
 have HK3L := Lh hk3l
 clear hx4 hx3 hr3 hmk hk3l
 obtain ⟨gm, hgm⟩ : ∃ gm, V4.heap.size = gm := ⟨_, rfl⟩
 rw [hgm] at HMK
 have HGM := Lh hgm
 clear hgm
 go_upto_region 8 with fail
 apply wp_region_lit
 iterate 2 (refine wpList_plain rfl (fun K hK => ?_); go_simp; refine hK _ _ ?_; clear hK K)
 (refine wpList_plain rfl (fun K hK => ?_); go_simp)
 refine HMK.out.mono ?_
 rintro e V5 ⟨rfl, hA5, hb5⟩
 rw [<- HGM.out] at hb5
 refine hK _ _ ?_
 clear hK K hc3 HMK
 have htg := tagged16_any (Da.key16 K9 N 3) B gm n oB cB V5 hA5 (HBR.out.later (Ks HB4.out hb5)) (HV.out.later (Ks HB4.out hb5)) (by have := HBL.out; omega)
 rw [HL.out] at htg
 have HTG := Lh htg
 have HB5 := Lh (Ks HB4.out hb5)
 clear htg hA5 hb5
 iterate 2 (refine wpList_plain rfl (fun K hK => ?_); go_simp; refine hK _ _ ?_; clear hK K)
 (refine wpList_plain rfl (fun K hK => ?_); go_simp)
 refine HTG.out.mono ?_
 rintro e V6 ⟨x, rfl, hx6, hb6⟩
 refine hK _ _ ?_
 clear hK K HTG
 have HX6 := Lh hx6
 have HB6 := Lh (Ks HB5.out hb6)
 clear hx6 hb6
 go_wp2_with fail
 refine bodyPost_ret (results_tmp2 rfl _ _ _) rfl ?_
 refine ⟨x, by rw [HTK.out]; rfl, ?_, HB6.out⟩
 rw [<- HRS.out, if_pos HTK.out]
 exact HX6.out
theorem tag16c_any (A : Nat -> Addr) (W : World) (oK : Option Addr) (cK : Nat) (K9 : List UInt8) (N n : Int) (oB : Option Addr) (cB : Nat) (B : List UInt8) (hK9 : RowIs W oK (bytesV K9) cK) (hB : RowIs W oB (bytesV B) cB) (hKl : K9.length <= 100) (hBl : B.length <= 60) (hN : in64 N) (hn : in64 n) (hV : Cds W) (hE : E16 W A) :
    Calls Tryz.prog 25 #[.slice oK K9.length cK, .int .i64 N, .int .i64 n, .slice oB B.length cB] W fun e w' => ∃ x, e = .returned (.tuple #[x, errV A (Da.tbad16 K9 N n B.length)]) /\ RowV (if Da.tbad16 K9 N n B.length = 0 then Da.tg16 (Da.key16 K9 N 3) n B else []) x w' /\ Below W.heap.size W w' := tag16c_of _ rfl lk_zero A W oK cK K9 N n oB cB B hK9 hB hKl hBl hN hn hV hE
theorem tagged16c_of (ZK : Array Value) (hZK : nil5.toArray = ZK) (hzk : ∀ w, Sem.run Tryz.prog (zeroValue 76) w = .ok (.agg ZK) w) (A : Nat -> Addr) (W : World) (oK : Option Addr) (cK : Nat) (K9 : List UInt8) (N n : Int) (oB : Option Addr) (cB : Nat) (B : List UInt8) (hK9 : RowIs W oK (bytesV K9) cK) (hB : RowIs W oB (bytesV B) cB) (hKl : K9.length <= 100) (hBl : B.length <= 60) (hN : in64 N) (hn : in64 n) (hV : Cds W) (hE : E16 W A) :
    Calls Tryz.prog 26 #[.slice oK K9.length cK, .int .i64 N, .int .i64 n, .slice oB B.length cB] W fun e w' => e = .returned (.tuple #[.bool (if Da.abad (Da.isMas K9.length) (Da.inR N) = 0 then Da.tgd16 (Da.key16 K9 N 3) n B else false), errV A (Da.abad (Da.isMas K9.length) (Da.inR N))]) /\ Below W.heap.size W w' := by
 have hla := lall_anyA K9 oK cK N A W hK9 hV hE.e9 (by omega)
 obtain ⟨k, hk⟩ : ∃ k, Da.abad (Da.isMas K9.length) (Da.inR N) = k := ⟨_, rfl⟩
 rw [hk]
 obtain ⟨lk, hlk⟩ : ∃ lk, K9.length = lk := ⟨_, rfl⟩
 obtain ⟨L, hL⟩ : ∃ L, B.length = L := ⟨_, rfl⟩
 rw [hk] at hla
 rw [hlk] at hla ⊢
 rw [hL] at ⊢
 have HLA := Lh hla
 have HK := Lh hk
 have HL := Lh hL
 have HBR := Lh hB
 have HV := Lh hV
 have HE := Lh hE
 have HZK := Lh hZK
 have HBL := Lh hBl
 have hnn := neq_nil
 clear hla hk hL hB hV hE hZK hK9 hBl hlk hKl hN
 obtain ⟨RB, hRB⟩ : ∃ RB, (if k = 0 then Da.tgd16 (Da.key16 K9 N 3) n B else false) = RB := ⟨_, rfl⟩
 rw [hRB]
 have HRB := Lh hRB
 clear hRB
 go_enter Tryz.func26, Tryz.ntmps26
 go_upto_region 1 with fail
 apply wp_region_lit
 iterate 2 (refine wpList_plain rfl (fun K hK => ?_); go_simp; refine hK _ _ ?_; clear hK K)
 (refine wpList_plain rfl (fun K hK => ?_); go_simp)
 refine HLA.out.mono ?_
 rintro e V2 ⟨xs, rfl, hx, hb2⟩
 refine hK _ _ ?_
 clear hK K HLA
 obtain ⟨gk, hgk⟩ : ∃ gk, V2.heap.size = gk := ⟨_, rfl⟩
 obtain ⟨FA, hFA⟩ : ∃ FA : Array Value, xs.toArray = FA := ⟨_, rfl⟩
 have h5 : xs.length = 5 := hx.len.trans (Da.ares_five _ _ _)
 have HFS : Hid ((Tryz.prog.info? 76).map (·.size) = some FA.size) := Lh (by rw [lk_info, <- hFA]; simp [h5])
 have HFZ : Hid (ZK.size = FA.size) := Lh (by rw [<- HZK.out, <- hFA]; simp [h5, nil5])
 have HFO : Hid (FA.all (·.oneCell') = true) := Lh (by rw [<- hFA]; exact els_cells16 hx)
 obtain ⟨V3, hV3⟩ : ∃ V3, V2.alloc (.cells ZK 76) = V3 := ⟨_, rfl⟩
 have hz3 : V3.heap[gk]? = some (.cells ZK 76 (0, 0)) := by rw [<- hV3, <- hgk]; exact World.alloc_heap_new V2 _
 obtain ⟨V4, hV4⟩ : ∃ V4, V3.setRow gk FA = V4 := ⟨_, rfl⟩
 have hA4 : Arr V4 gk 76 xs := by rw [<- hV4]; unfold Arr; rw [hFA]; exact setRow_heap _ _ _ _ _ _ hz3
 have hb4 : Below V2.heap.size V2 V4 := by rw [<- hV4, <- hV3]; exact (new12 _ _).trans (below_row (Nat.le_of_eq hgk))
 have HX4 := Lh (hx.later hb4)
 have HA4 := Lh hA4
 have HZ3 := Lh hz3
 have HV3 := Lh hV3
 have HV4 := Lh hV4
 have HGK := Lh hgk
 have HFA := Lh hFA
 rw [hFA]
 have HB4 := Lh (Ks hb2 hb4)
 clear hx hb2 hgk hFA h5 hV3 hz3 hV4 hA4 hb4
 iterate 4 (refine wpList_plain rfl (fun K hK => ?_); go_simp; refine hK _ _ ?_; clear hK K)
 rw [HV3.out, HGK.out]
 refine wpList_store_rowTo rfl 76 (.tmp 10) (.tmp 18) rfl rfl gk FA rfl rfl 76 ZK HZ3.out HFS.out HFZ.out HFO.out ?_
 rw [HV4.out]
 clear HV3 HV4 HZ3 HGK
 (refine wpList_plain rfl (fun K hK => ?_); go_simp; refine hK _ _ ?_; clear hK K)
 by_cases h0 : k = 0
 rotate_left
 ·have hrb : RB = false := by rw [<- HRB.out, if_neg h0]
  have HRF := Lh hrb
  clear hrb
  obtain ⟨a1, ha1⟩ := errV_succ A k h0
  rw [ha1]
  have HA1 := Lh ha1
  have H0 := Lh h0
  clear ha1 h0
  go_wp2_with fail
  refine bodyPost_ret (results_tmp2 rfl _ _ _) rfl ?_
  exact ⟨by rw [HRF.out, HA1.out]; rfl, HB4.out⟩
 subst h0
 have hrb : RB = Da.tgd16 (Da.key16 K9 N 3) n B := by rw [<- HRB.out, if_pos rfl]
 have HRT := Lh hrb
 clear hrb
 rw [errV_nil]
 go_upto_region 4 with fail
 apply wp_region_lit
 (refine wpList_plain rfl (fun K hK => ?_); go_simp; refine hK _ _ ?_; clear hK K)
 (refine wpList_plain rfl (fun K hK => ?_); go_simp)
 refine (isp16_any n _).mono ?_
 rintro e w1 ⟨rfl, rfl⟩
 refine hK _ _ ?_
 clear hK K
 rename World => V4
 by_cases hp : 0 <= n /\ n < 512
 rotate_left
 ·have hpb : (decide (0 <= n) && decide (n < 512)) = false := by
   rw [Bool.eq_false_iff]
   intro h
   rw [Bool.and_eq_true, decide_eq_true_eq, decide_eq_true_eq] at h
   exact hp h
  rw [hpb]
  have hrf : RB = false := by
   rw [HRT.out]
   unfold Da.tgd16
   rw [<- Bool.and_assoc (decide (0 <= n)), hpb, Bool.false_and, Bool.and_false]
  have HRF := Lh hrf
  clear hrf hp hpb
  go_wp2_with fail
  refine bodyPost_ret (results_tmp2 rfl _ _ _) rfl ?_
  exact ⟨by rw [HRF.out]; rfl, HB4.out⟩
 have hpb : (decide (0 <= n) && decide (n < 512)) = true := by rw [decide_eq_true hp.1, decide_eq_true hp.2]; rfl
 rw [hpb]
 have HP := Lh hp
 clear hpb hp
 by_cases h16 : L = 16
 rotate_left
 ·have hq1 : ((L : Int) != 16) = true := by rw [bne_iff_ne]; omega
  have hq2 : ((L : Int) == 16) = false := beq_false_of_ne (by omega)
  have hrf : RB = false := by
   rw [HRT.out]
   unfold Da.tgd16
   rw [HL.out, decide_eq_false h16, Bool.false_and]
  have HRF := Lh hrf
  clear hrf h16
  go_wp2_with fail
  refine bodyPost_ret (results_tmp2 rfl _ _ _) rfl ?_
  exact ⟨by rw [HRF.out]; rfl, HB4.out⟩
 subst h16
 have hB := HBR.out.later HB4.out
 obtain ⟨bb, off, rfl, hlt, _⟩ := hB.cells (by simp [HL.out])
 have hle := hB.le
 have hca := hB.cap
 rw [bytesV_length, HL.out] at hle
 unfold maxLen at hca
 have hr1 : RowIs V4 (some ⟨bb, off, none⟩) (bytesV (B.take 8)) cB := by
  have := hB.part 0 8 (by simp [HL.out]) cB (by omega) hB.cap
  simpa [bytesV, List.map_take] using this
 have hr2 : RowIs V4 (some ⟨bb, off + 8, none⟩) (bytesV (B.drop 8)) (cB - 8) := by
  have := hB.part 8 8 (by simp [HL.out]) (cB - 8) (by omega) (by have := hB.cap; omega)
  rw [show (bytesV B).drop 8 = bytesV (B.drop 8) by simp [bytesV, List.map_drop], List.take_of_length_le (by simp [HL.out])] at this
  exact this
 have h1l : (B.take 8).length = 8 := by rw [List.length_take, HL.out]; rfl
 have h2l : (B.drop 8).length = 8 := by rw [List.length_drop, HL.out]
 have hne : cB ≠ 8 := by omega
 have HR1 := Lh hr1
 have HR2 := Lh hr2
 have H1L := Lh h1l
 have H2L := Lh h2l
 clear hB hlt hr1 hr2 h1l h2l
 go_upto_region 6 with fail
 go_quiet (fail)
 obtain ⟨V5, hV5⟩ : ∃ V5, V4.drewN nq = V5 := ⟨_, rfl⟩
 have hbd : Below V4.heap.size V4 V5 := by rw [<- hV5]; exact Kit.dn' V4 nq
 have hx4 : Els V5 (Da.keysL K9 N) xs := (show Els V4 (Da.keysL K9 N) xs from HX4.out).later hbd
 obtain ⟨x3, hx3, hr3⟩ := hx4.key16 3 (by omega)
 have hk3l := Da.key16_length K9 N 3 (by omega)
 obtain ⟨o3, c3, rfl, hr3⟩ := hr3
 have HB5 := Lh (Ks HB4.out hbd)
 have hmk := kmake_any (Da.key16 K9 N 3) o3 c3 V5 hr3 (HV.out.later HB5.out) (by rw [hk3l]; omega)
 rw [hk3l] at hmk hx3
 have hc3 : V5.cell? ⟨gk, 3, none⟩ = some (.slice o3 32 c3) := by rw [(HA4.out.later hbd HA4.out.lt).cell]; exact hx3
 have HMK := Lh hmk
 have HR15 := Lh (HR1.out.later hbd)
 have HR25 := Lh (HR2.out.later hbd)
 rw [hV5]
 clear hx4 hx3 hr3 hmk hk3l hV5 hbd
 obtain ⟨gm, hgm⟩ : ∃ gm, V5.heap.size = gm := ⟨_, rfl⟩
 rw [hgm] at HMK
 have HGM := Lh hgm
 clear hgm
 go_upto_region 7 with fail
 apply wp_region_lit
 iterate 2 (refine wpList_plain rfl (fun K hK => ?_); go_simp; refine hK _ _ ?_; clear hK K)
 (refine wpList_plain rfl (fun K hK => ?_); go_simp)
 refine HMK.out.mono ?_
 rintro e V6 ⟨rfl, hA6, hb6⟩
 rw [<- HGM.out] at hb6
 refine hK _ _ ?_
 clear hK K hc3 HMK
 have HA6 := Lh hA6
 have HB6 := Lh (Ks HB5.out hb6)
 have HR16 := Lh (HR15.out.later hb6)
 have HR26 := Lh (HR25.out.later hb6)
 clear hA6 hb6
 iterate 2 (refine wpList_plain rfl (fun K hK => ?_); go_simp; refine hK _ _ ?_; clear hK K)
 (refine wpList_plain rfl (fun K hK => ?_); go_simp)
 refine (lnum_rv (n := n) rfl).mono ?_
 rintro e V7 ⟨r, rfl, hr, hb7⟩
 refine hK _ _ ?_
 clear hK K
 obtain ⟨o1, c1, rfl, hr1⟩ := hr
 have h8 := Da.num8_length n
 rw [h8]
 obtain ⟨g2, hg2⟩ : ∃ g2, V7.heap.size = g2 := ⟨_, rfl⟩
 obtain ⟨V8, hV8⟩ : ∃ V8, V7.alloc (.cells #[.slice o1 8 c1, .slice (some ⟨bb, off, none⟩) 8 cB] 22) = V8 := ⟨_, rfl⟩
 have hb8 : Below V7.heap.size V7 V8 := by rw [<- hV8]; exact new12 _ _
 have hrb : RbIs V8 (some ⟨g2, 0, none⟩) [Da.num8 n, B.take 8] 2 := by
  have := two_parts hr1 (HR16.out.later hb7)
  rw [h8, H1L.out, hV8, hg2] at this
  exact this
 have hb78 := Ks hb7 hb8
 have htg := kright_any (Da.key16 K9 N 3) gm (B.drop 8) (some ⟨bb, off + 8, none⟩) (cB - 8) [Da.num8 n, B.take 8] (some ⟨g2, 0, none⟩) 2 V8 (HA6.out.later hb78 HA6.out.lt) (HR26.out.later hb78) (by rw [H2L.out]; omega) hrb (HV.out.later (Ks HB6.out hb78)) (by simp [h8, H1L.out]) (by simp)
 rw [show [Da.num8 n, B.take 8].flatten = Da.num8 n ++ B.take 8 by simp, show ([Da.num8 n, B.take 8] : List (List UInt8)).length = 2 from rfl, H2L.out, Da.tgd16_right _ B n HL.out HP.out.1 HP.out.2, <- HRT.out] at htg
 have HTG := Lh htg
 have HV8 := Lh hV8
 have HG2 := Lh hg2
 have HB8 := Lh (Ks HB6.out hb78)
 clear hr1 h8 hg2 hV8 hb8 hrb htg hb7 hb78
 (refine wpList_plain rfl (fun K hK => ?_); go_simp; refine hK _ _ ?_; clear hK K)
 (refine wpList_plain rfl (fun K hK => ?_); go_simp; rw [HV8.out, HG2.out]; refine hK _ _ ?_; clear hK K)
 (refine wpList_plain rfl (fun K hK => ?_); go_simp)
 refine HTG.out.mono ?_
 rintro e V9 ⟨rfl, hb9⟩
 refine hK _ _ ?_
 clear hK K HTG
 have HB9 := Lh (Ks HB8.out hb9)
 clear hb9
 go_wp2_with fail
 refine bodyPost_ret (results_tmp2 rfl _ _ _) rfl ?_
 exact ⟨rfl, HB9.out⟩
theorem tagged16c_any (A : Nat -> Addr) (W : World) (oK : Option Addr) (cK : Nat) (K9 : List UInt8) (N n : Int) (oB : Option Addr) (cB : Nat) (B : List UInt8) (hK9 : RowIs W oK (bytesV K9) cK) (hB : RowIs W oB (bytesV B) cB) (hKl : K9.length <= 100) (hBl : B.length <= 60) (hN : in64 N) (hn : in64 n) (hV : Cds W) (hE : E16 W A) :
    Calls Tryz.prog 26 #[.slice oK K9.length cK, .int .i64 N, .int .i64 n, .slice oB B.length cB] W fun e w' => e = .returned (.tuple #[.bool (if Da.abad (Da.isMas K9.length) (Da.inR N) = 0 then Da.tgd16 (Da.key16 K9 N 3) n B else false), errV A (Da.abad (Da.isMas K9.length) (Da.inR N))]) /\ Below W.heap.size W w' := tagged16c_of _ rfl lk_zero A W oK cK K9 N n oB cB B hK9 hB hKl hBl hN hn hV hE
theorem Da.rdy16_none {K : List UInt8} {N : Int} {p : Pm15} (h : Da.rdy16 K N p ≠ 0) (f : Nat -> Nat) : Da.sen16 p (if Da.abad (Da.isMas K.length) (Da.inR N) = 0 then f 0 else Da.abad (Da.isMas K.length) (Da.inR N)) ≠ 0 := by
 unfold Da.rdy16 at h
 unfold Da.sen16
 by_cases h0 : Da.bad15 p = 0
 ·rw [if_pos h0] at h ⊢
  rw [if_neg h]
  exact h
 ·rw [if_neg h0] at h ⊢
  exact h
theorem sev_none16 {A : Nat -> Addr} {K : List UInt8} {N : Int} {p : Pm15} {W : World} {v : Value} (h : SeV A p (Da.abad (Da.isMas K.length) (Da.inR N)) W v) (hr : Da.rdy16 K N p ≠ 0) (f : Nat) : SeV A p (if Da.abad (Da.isMas K.length) (Da.inR N) = 0 then f else Da.abad (Da.isMas K.length) (Da.inR N)) W v := by
 rcases h with h | ⟨h0, rfl⟩
 ·exact .inl h
 ·refine .inr ⟨h0, ?_⟩
  unfold Da.rdy16 at hr
  rw [if_pos h0] at hr
  rw [if_neg hr]
theorem Da.place16_val {K : List UInt8} {N : Int} {p : Pm15} (i : Int) (h : Da.rdy16 K N p = 0) : (if Da.sen16 p (Da.pbad16 K N p i) = 0 then Da.to16 K N p i.toNat else 0) = Da.tv11 (Da.son (Da.key16 K N 1) (Da.bw (Da.n16 p))) (Da.n16 p) (4 ^ Da.bw (Da.n16 p)) i := by
 obtain ⟨h0, h1⟩ := Da.rdy16_both h
 unfold Da.sen16 Da.pbad16
 rw [if_pos h0, if_pos h1]
 unfold Da.ob11 Da.tv11
 by_cases hi : Da.inO (Da.n16 p) i = true
 ·rw [if_pos hi, if_pos rfl, if_pos hi]
  rfl
 ·rw [if_neg hi, if_neg (by omega), if_neg hi]
theorem Da.back16_val {K : List UInt8} {N : Int} {p : Pm15} (i : Int) (h : Da.rdy16 K N p = 0) : (if Da.sen16 p (Da.pbad16 K N p i) = 0 then Da.fr16 K N p i.toNat else 0) = Da.tv11 (Da.sbk (Da.key16 K N 1) (Da.bw (Da.n16 p))) (Da.n16 p) (4 ^ Da.bw (Da.n16 p)) i := by
 obtain ⟨h0, h1⟩ := Da.rdy16_both h
 unfold Da.sen16 Da.pbad16
 rw [if_pos h0, if_pos h1]
 unfold Da.ob11 Da.tv11
 by_cases hi : Da.inO (Da.n16 p) i = true
 ·rw [if_pos hi, if_pos rfl, if_pos hi]
  rfl
 ·rw [if_neg hi, if_neg (by omega), if_neg hi]
theorem place16c_of (ZL : Array Value) (hZL : lyZ16.toArray = ZL) (hzl : ∀ w, Sem.run Tryz.prog (zeroValue 79) w = .ok (.agg ZL) w) (A : Nat -> Addr) (W : World) (oK : Option Addr) (cK : Nat) (K9 : List UInt8) (N : Int) (p : Pm15) (i : Int) (hK9 : RowIs W oK (bytesV K9) cK) (hKl : K9.length <= 100) (hN : in64 N) (hi : in64 i) (hok : p.ok) (hV : Cds W) (hE : E16 W A) :
    Calls Tryz.prog 18 #[.slice oK K9.length cK, .int .i64 N, .agg (pmA p), .int .i64 i] W fun e w' => ∃ v, e = .returned (.tuple #[.int .i64 ((if Da.sen16 p (Da.pbad16 K9 N p i) = 0 then Da.to16 K9 N p i.toNat else 0 : Nat) : Int), v]) /\ SeV A p (Da.pbad16 K9 N p i) w' v /\ Below W.heap.size W w' := by
 obtain ⟨PV, hPV⟩ : ∃ PV : Nat, (if Da.sen16 p (Da.pbad16 K9 N p i) = 0 then Da.to16 K9 N p i.toNat else 0) = PV := ⟨_, rfl⟩
 rw [hPV]
 have HPV := Lh hPV
 clear hPV
 obtain ⟨g, hg⟩ : ∃ g, W.heap.size = g := ⟨_, rfl⟩
 obtain ⟨PA, hPA⟩ : ∃ PA, pmA p = PA := ⟨_, rfl⟩
 obtain ⟨W1, hW1⟩ : ∃ W1, W.alloc (.cells PA 24) = W1 := ⟨_, rfl⟩
 have hb1 : Below W.heap.size W W1 := by rw [<- hW1]; exact new12 _ _
 have hP1 : W1.heap[g]? = some (.cells PA 24 (0, 0)) := by rw [<- hW1, <- hg]; exact World.alloc_heap_new W _
 have hly := layout16_any A W1 oK cK K9 N p (hK9.later hb1) hKl hN hok (hV.later hb1) (hE.later hb1)
 have HPS : Hid ((Tryz.prog.info? 24).map (·.size) = some PA.size) := Lh (by rw [<- hPA]; exact pm15c_info)
 rw [hPA] at hly ⊢
 obtain ⟨lk, hlk⟩ : ∃ lk, K9.length = lk := ⟨_, rfl⟩
 rw [hlk] at hly ⊢
 have HLY := Lh hly
 have HP1 := Lh hP1
 have HB1 := Lh hb1
 have HW1 := Lh hW1
 have HG := Lh hg
 have HV := Lh hV
 have HE := Lh hE
 have HZL := Lh hZL
 have hnn := neq_nil
 clear hly hP1 hb1 hW1 hg hV hE hZL hK9 hKl hN hi hok hPA hlk
 go_enter Tryz.func18, Tryz.ntmps18
 go_upto_region 1 with fail
 rw [HW1.out, HG.out]
 apply wp_region_lit
 iterate 2 (refine wpList_plain rfl (fun K hK => ?_); go_simp; refine hK _ _ ?_; clear hK K)
 refine wpList_load_row rfl 24 (.tmp 6) rfl g rfl 24 PA (0, 0) _ HP1.out Tryz.underlying24 rfl HPS.out ?_
 (refine wpList_plain rfl (fun K hK => ?_); go_simp)
 refine HLY.out.mono ?_
 rintro e V2 ⟨L, v, rfl, hly, hb2⟩
 refine hK _ _ ?_
 clear hK K HLY
 obtain ⟨gl, hgl⟩ : ∃ gl, V2.heap.size = gl := ⟨_, rfl⟩
 obtain ⟨FL, hFL⟩ : ∃ FL, L.toArray = FL := ⟨_, rfl⟩
 obtain ⟨V3, hV3⟩ : ∃ V3, V2.alloc (.cells ZL 79) = V3 := ⟨_, rfl⟩
 have hz3 : V3.heap[gl]? = some (.cells ZL 79 (0, 0)) := by rw [<- hV3, <- hgl]; exact World.alloc_heap_new V2 _
 obtain ⟨V4, hV4⟩ : ∃ V4, V3.setRow gl FL = V4 := ⟨_, rfl⟩
 have hA4 : Arr V4 gl 79 L := by rw [<- hV4]; unfold Arr; rw [hFL]; exact setRow_heap _ _ _ _ _ _ hz3
 have hb4 : Below V2.heap.size V2 V4 := by rw [<- hV4, <- hV3]; exact (new12 _ _).trans (below_row (Nat.le_of_eq hgl))
 have HLS : Hid ((Tryz.prog.info? 79).map (·.size) = some FL.size) := Lh (by rw [ly_info, <- hFL, hly.1])
 have HLQ : Hid (ZL.size = FL.size) := Lh (by rw [<- hFL, hly.1, <- HZL.out]; rfl)
 have HLO : Hid (FL.all (·.oneCell') = true) := Lh (by rw [<- hFL]; exact hly.2.1)
 have hcs := (hly.later hb4).2.2
 have HA4 := Lh hA4
 have HZ3 := Lh hz3
 have HV3 := Lh hV3
 have HV4 := Lh hV4
 have HGL := Lh hgl
 have HFL := Lh hFL
 have HB4 := Lh (Ks (Ks HB1.out hb2) hb4)
 have HCS := Lh hcs
 rw [hFL]
 clear hly hb2 hgl hFL hV3 hz3 hV4 hA4 hb4 hcs
 iterate 4 (refine wpList_plain rfl (fun K hK => ?_); go_simp; refine hK _ _ ?_; clear hK K)
 rw [HV3.out, HGL.out]
 refine wpList_store_rowTo rfl 79 (.tmp 10) (.tmp 17) rfl rfl gl FL rfl rfl 79 ZL HZ3.out HLS.out HLQ.out HLO.out ?_
 rw [HV4.out]
 clear HV3 HV4 HZ3
 (refine wpList_plain rfl (fun K hK => ?_); go_simp; refine hK _ _ ?_; clear hK K)
 rcases HCS.out with ⟨hr, rfl, xs, go, q, rfl, h5, hx, hO⟩ | ⟨hr, hsv, hn1, hn2⟩
 rotate_left
 ·have HF1 : Hid (PV = 0) := Lh (by rw [<- HPV.out]; exact if_neg (Da.rdy16_none hr (fun _ => Da.ob11 (Da.n16 p) i)))
  have HF2 : Hid (SeV A p (Da.pbad16 K9 N p i) V4 v) := Lh (sev_none16 hsv hr _)
  clear hr hsv HCS
  go_wp2_with fail
  refine bodyPost_ret (results_tmp2 rfl _ _ _) rfl ?_
  exact ⟨v, by rw [HF1.out]; rfl, HF2.out, HB4.out⟩
 have h0 := Da.rdy16_both hr
 have hn4 := Da.n16_le2 (Da.right15 h0.1)
 have hto := oto_any go q (Da.key16 K9 N 1) (Da.n16 p) (by omega) i A V4 hO (HV.out.later HB4.out) (HE.out.later HB4.out).e11
 have hpv := Da.place16_val (K := K9) (N := N) (p := p) i hr
 rw [HPV.out] at hpv
 rw [<- hpv] at hto
 obtain ⟨ob, hob⟩ : ∃ ob, Da.ob11 (Da.n16 p) i = ob := ⟨_, rfl⟩
 rw [hob] at hto
 have HF2 : Hid (∀ w', SeV A p (Da.pbad16 K9 N p i) w' (errV A ob)) := Lh fun w' => .inr ⟨h0.1, by unfold Da.pbad16; rw [if_pos h0.2, hob]⟩
 have hc5 : V4.cell? ⟨gl, 5, none⟩ = some (.pointer (some ⟨go, 0, none⟩)) := by rw [HA4.out.cell, ly_at5 h5]
 have HTO := Lh hto
 clear hr h5 hx hO h0 hn4 hto hpv hob HCS
 go_upto_region 4 with fail
 apply wp_region_lit
 iterate 3 (refine wpList_plain rfl (fun K hK => ?_); go_simp; refine hK _ _ ?_; clear hK K)
 (refine wpList_plain rfl (fun K hK => ?_); go_simp)
 refine HTO.out.mono ?_
 rintro e V5 ⟨rfl, hb5⟩
 refine hK _ _ ?_
 clear hK K HTO hc5
 have HB5 := Lh (Ks HB4.out hb5)
 clear hb5
 go_wp2_with fail
 refine bodyPost_ret (results_tmp2 rfl _ _ _) rfl ?_
 exact ⟨errV A ob, rfl, HF2.out _, HB5.out⟩
theorem place16c_any (A : Nat -> Addr) (W : World) (oK : Option Addr) (cK : Nat) (K9 : List UInt8) (N : Int) (p : Pm15) (i : Int) (hK9 : RowIs W oK (bytesV K9) cK) (hKl : K9.length <= 100) (hN : in64 N) (hi : in64 i) (hok : p.ok) (hV : Cds W) (hE : E16 W A) :
    Calls Tryz.prog 18 #[.slice oK K9.length cK, .int .i64 N, .agg (pmA p), .int .i64 i] W fun e w' => ∃ v, e = .returned (.tuple #[.int .i64 ((if Da.sen16 p (Da.pbad16 K9 N p i) = 0 then Da.to16 K9 N p i.toNat else 0 : Nat) : Int), v]) /\ SeV A p (Da.pbad16 K9 N p i) w' v /\ Below W.heap.size W w' := place16c_of _ rfl ly_zero A W oK cK K9 N p i hK9 hKl hN hi hok hV hE
theorem back16c_of (ZL : Array Value) (hZL : lyZ16.toArray = ZL) (hzl : ∀ w, Sem.run Tryz.prog (zeroValue 79) w = .ok (.agg ZL) w) (A : Nat -> Addr) (W : World) (oK : Option Addr) (cK : Nat) (K9 : List UInt8) (N : Int) (p : Pm15) (i : Int) (hK9 : RowIs W oK (bytesV K9) cK) (hKl : K9.length <= 100) (hN : in64 N) (hi : in64 i) (hok : p.ok) (hV : Cds W) (hE : E16 W A) :
    Calls Tryz.prog 19 #[.slice oK K9.length cK, .int .i64 N, .agg (pmA p), .int .i64 i] W fun e w' => ∃ v, e = .returned (.tuple #[.int .i64 ((if Da.sen16 p (Da.pbad16 K9 N p i) = 0 then Da.fr16 K9 N p i.toNat else 0 : Nat) : Int), v]) /\ SeV A p (Da.pbad16 K9 N p i) w' v /\ Below W.heap.size W w' := by
 obtain ⟨PV, hPV⟩ : ∃ PV : Nat, (if Da.sen16 p (Da.pbad16 K9 N p i) = 0 then Da.fr16 K9 N p i.toNat else 0) = PV := ⟨_, rfl⟩
 rw [hPV]
 have HPV := Lh hPV
 clear hPV
 obtain ⟨g, hg⟩ : ∃ g, W.heap.size = g := ⟨_, rfl⟩
 obtain ⟨PA, hPA⟩ : ∃ PA, pmA p = PA := ⟨_, rfl⟩
 obtain ⟨W1, hW1⟩ : ∃ W1, W.alloc (.cells PA 24) = W1 := ⟨_, rfl⟩
 have hb1 : Below W.heap.size W W1 := by rw [<- hW1]; exact new12 _ _
 have hP1 : W1.heap[g]? = some (.cells PA 24 (0, 0)) := by rw [<- hW1, <- hg]; exact World.alloc_heap_new W _
 have hly := layout16_any A W1 oK cK K9 N p (hK9.later hb1) hKl hN hok (hV.later hb1) (hE.later hb1)
 have HPS : Hid ((Tryz.prog.info? 24).map (·.size) = some PA.size) := Lh (by rw [<- hPA]; exact pm15c_info)
 rw [hPA] at hly ⊢
 obtain ⟨lk, hlk⟩ : ∃ lk, K9.length = lk := ⟨_, rfl⟩
 rw [hlk] at hly ⊢
 have HLY := Lh hly
 have HP1 := Lh hP1
 have HB1 := Lh hb1
 have HW1 := Lh hW1
 have HG := Lh hg
 have HV := Lh hV
 have HE := Lh hE
 have HZL := Lh hZL
 have hnn := neq_nil
 clear hly hP1 hb1 hW1 hg hV hE hZL hK9 hKl hN hi hok hPA hlk
 go_enter Tryz.func19, Tryz.ntmps19
 go_upto_region 1 with fail
 rw [HW1.out, HG.out]
 apply wp_region_lit
 iterate 2 (refine wpList_plain rfl (fun K hK => ?_); go_simp; refine hK _ _ ?_; clear hK K)
 refine wpList_load_row rfl 24 (.tmp 6) rfl g rfl 24 PA (0, 0) _ HP1.out Tryz.underlying24 rfl HPS.out ?_
 (refine wpList_plain rfl (fun K hK => ?_); go_simp)
 refine HLY.out.mono ?_
 rintro e V2 ⟨L, v, rfl, hly, hb2⟩
 refine hK _ _ ?_
 clear hK K HLY
 obtain ⟨gl, hgl⟩ : ∃ gl, V2.heap.size = gl := ⟨_, rfl⟩
 obtain ⟨FL, hFL⟩ : ∃ FL, L.toArray = FL := ⟨_, rfl⟩
 obtain ⟨V3, hV3⟩ : ∃ V3, V2.alloc (.cells ZL 79) = V3 := ⟨_, rfl⟩
 have hz3 : V3.heap[gl]? = some (.cells ZL 79 (0, 0)) := by rw [<- hV3, <- hgl]; exact World.alloc_heap_new V2 _
 obtain ⟨V4, hV4⟩ : ∃ V4, V3.setRow gl FL = V4 := ⟨_, rfl⟩
 have hA4 : Arr V4 gl 79 L := by rw [<- hV4]; unfold Arr; rw [hFL]; exact setRow_heap _ _ _ _ _ _ hz3
 have hb4 : Below V2.heap.size V2 V4 := by rw [<- hV4, <- hV3]; exact (new12 _ _).trans (below_row (Nat.le_of_eq hgl))
 have HLS : Hid ((Tryz.prog.info? 79).map (·.size) = some FL.size) := Lh (by rw [ly_info, <- hFL, hly.1])
 have HLQ : Hid (ZL.size = FL.size) := Lh (by rw [<- hFL, hly.1, <- HZL.out]; rfl)
 have HLO : Hid (FL.all (·.oneCell') = true) := Lh (by rw [<- hFL]; exact hly.2.1)
 have hcs := (hly.later hb4).2.2
 have HA4 := Lh hA4
 have HZ3 := Lh hz3
 have HV3 := Lh hV3
 have HV4 := Lh hV4
 have HGL := Lh hgl
 have HFL := Lh hFL
 have HB4 := Lh (Ks (Ks HB1.out hb2) hb4)
 have HCS := Lh hcs
 rw [hFL]
 clear hly hb2 hgl hFL hV3 hz3 hV4 hA4 hb4 hcs
 iterate 4 (refine wpList_plain rfl (fun K hK => ?_); go_simp; refine hK _ _ ?_; clear hK K)
 rw [HV3.out, HGL.out]
 refine wpList_store_rowTo rfl 79 (.tmp 10) (.tmp 17) rfl rfl gl FL rfl rfl 79 ZL HZ3.out HLS.out HLQ.out HLO.out ?_
 rw [HV4.out]
 clear HV3 HV4 HZ3
 (refine wpList_plain rfl (fun K hK => ?_); go_simp; refine hK _ _ ?_; clear hK K)
 rcases HCS.out with ⟨hr, rfl, xs, go, q, rfl, h5, hx, hO⟩ | ⟨hr, hsv, hn1, hn2⟩
 rotate_left
 ·have HF1 : Hid (PV = 0) := Lh (by rw [<- HPV.out]; exact if_neg (Da.rdy16_none hr (fun _ => Da.ob11 (Da.n16 p) i)))
  have HF2 : Hid (SeV A p (Da.pbad16 K9 N p i) V4 v) := Lh (sev_none16 hsv hr _)
  clear hr hsv HCS
  go_wp2_with fail
  refine bodyPost_ret (results_tmp2 rfl _ _ _) rfl ?_
  exact ⟨v, by rw [HF1.out]; rfl, HF2.out, HB4.out⟩
 have h0 := Da.rdy16_both hr
 have hn4 := Da.n16_le2 (Da.right15 h0.1)
 have hto := kfrom_any go q (Da.key16 K9 N 1) (Da.n16 p) (by omega) i A V4 hO (HV.out.later HB4.out) (HE.out.later HB4.out).e11
 have hpv := Da.back16_val (K := K9) (N := N) (p := p) i hr
 rw [HPV.out] at hpv
 rw [<- hpv] at hto
 obtain ⟨ob, hob⟩ : ∃ ob, Da.ob11 (Da.n16 p) i = ob := ⟨_, rfl⟩
 rw [hob] at hto
 have HF2 : Hid (∀ w', SeV A p (Da.pbad16 K9 N p i) w' (errV A ob)) := Lh fun w' => .inr ⟨h0.1, by unfold Da.pbad16; rw [if_pos h0.2, hob]⟩
 have hc5 : V4.cell? ⟨gl, 5, none⟩ = some (.pointer (some ⟨go, 0, none⟩)) := by rw [HA4.out.cell, ly_at5 h5]
 have HTO := Lh hto
 clear hr h5 hx hO h0 hn4 hto hpv hob HCS
 go_upto_region 4 with fail
 apply wp_region_lit
 iterate 3 (refine wpList_plain rfl (fun K hK => ?_); go_simp; refine hK _ _ ?_; clear hK K)
 (refine wpList_plain rfl (fun K hK => ?_); go_simp)
 refine HTO.out.mono ?_
 rintro e V5 ⟨rfl, hb5⟩
 refine hK _ _ ?_
 clear hK K HTO hc5
 have HB5 := Lh (Ks HB4.out hb5)
 clear hb5
 go_wp2_with fail
 refine bodyPost_ret (results_tmp2 rfl _ _ _) rfl ?_
 exact ⟨errV A ob, rfl, HF2.out _, HB5.out⟩
theorem back16c_any (A : Nat -> Addr) (W : World) (oK : Option Addr) (cK : Nat) (K9 : List UInt8) (N : Int) (p : Pm15) (i : Int) (hK9 : RowIs W oK (bytesV K9) cK) (hKl : K9.length <= 100) (hN : in64 N) (hi : in64 i) (hok : p.ok) (hV : Cds W) (hE : E16 W A) :
    Calls Tryz.prog 19 #[.slice oK K9.length cK, .int .i64 N, .agg (pmA p), .int .i64 i] W fun e w' => ∃ v, e = .returned (.tuple #[.int .i64 ((if Da.sen16 p (Da.pbad16 K9 N p i) = 0 then Da.fr16 K9 N p i.toNat else 0 : Nat) : Int), v]) /\ SeV A p (Da.pbad16 K9 N p i) w' v /\ Below W.heap.size W w' := back16c_of _ rfl ly_zero A W oK cK K9 N p i hK9 hKl hN hi hok hV hE
theorem sentinel16c_of (ZL : Array Value) (hZL : lyZ16.toArray = ZL) (hzl : ∀ w, Sem.run Tryz.prog (zeroValue 79) w = .ok (.agg ZL) w) (A : Nat -> Addr) (W : World) (oK : Option Addr) (cK : Nat) (K9 : List UInt8) (N : Int) (p : Pm15) (j : Int) (hK9 : RowIs W oK (bytesV K9) cK) (hKl : K9.length <= 100) (hN : in64 N) (hj : in64 j) (hok : p.ok) (hV : Cds W) (hE : E16 W A) :
    Calls Tryz.prog 20 #[.slice oK K9.length cK, .int .i64 N, .agg (pmA p), .int .i64 j] W fun e w' => ∃ x v, e = .returned (.tuple #[.int .i64 ((if Da.sen16 p (Da.jbad16 K9 N p j) = 0 then Da.jat16 K9 N p j else 0 : Nat) : Int), x, v]) /\ RowV (if Da.sen16 p (Da.jbad16 K9 N p j) = 0 then Da.tg16 (Da.key16 K9 N 3) ((Da.jat16 K9 N p j : Nat) : Int) (Da.sb (Da.key16 K9 N 2) j) else []) x w' /\ SeV A p (Da.jbad16 K9 N p j) w' v /\ Below W.heap.size W w' := by
 obtain ⟨PV, hPV⟩ : ∃ PV : Nat, (if Da.sen16 p (Da.jbad16 K9 N p j) = 0 then Da.jat16 K9 N p j else 0) = PV := ⟨_, rfl⟩
 obtain ⟨RS, hRS⟩ : ∃ RS : List UInt8, (if Da.sen16 p (Da.jbad16 K9 N p j) = 0 then Da.tg16 (Da.key16 K9 N 3) ((Da.jat16 K9 N p j : Nat) : Int) (Da.sb (Da.key16 K9 N 2) j) else []) = RS := ⟨_, rfl⟩
 rw [hPV, hRS]
 have HPV := Lh hPV
 have HRS := Lh hRS
 clear hPV hRS
 obtain ⟨g, hg⟩ : ∃ g, W.heap.size = g := ⟨_, rfl⟩
 obtain ⟨PA, hPA⟩ : ∃ PA, pmA p = PA := ⟨_, rfl⟩
 obtain ⟨W1, hW1⟩ : ∃ W1, W.alloc (.cells PA 24) = W1 := ⟨_, rfl⟩
 have hb1 : Below W.heap.size W W1 := by rw [<- hW1]; exact new12 _ _
 have hP1 : W1.heap[g]? = some (.cells PA 24 (0, 0)) := by rw [<- hW1, <- hg]; exact World.alloc_heap_new W _
 have hly := layout16_any A W1 oK cK K9 N p (hK9.later hb1) hKl hN hok (hV.later hb1) (hE.later hb1)
 have HPS : Hid ((Tryz.prog.info? 24).map (·.size) = some PA.size) := Lh (by rw [<- hPA]; exact pm15c_info)
 rw [hPA] at hly ⊢
 obtain ⟨lk, hlk⟩ : ∃ lk, K9.length = lk := ⟨_, rfl⟩
 rw [hlk] at hly ⊢
 have HLY := Lh hly
 have HP1 := Lh hP1
 have HB1 := Lh hb1
 have HW1 := Lh hW1
 have HG := Lh hg
 have HV := Lh hV
 have HE := Lh hE
 have HZL := Lh hZL
 have hnn := neq_nil
 clear hly hP1 hb1 hW1 hg hV hE hZL hK9 hKl hN hok hPA hlk
 go_enter Tryz.func20, Tryz.ntmps20
 go_upto_region 1 with fail
 rw [HW1.out, HG.out]
 apply wp_region_lit
 iterate 2 (refine wpList_plain rfl (fun K hK => ?_); go_simp; refine hK _ _ ?_; clear hK K)
 refine wpList_load_row rfl 24 (.tmp 6) rfl g rfl 24 PA (0, 0) _ HP1.out Tryz.underlying24 rfl HPS.out ?_
 (refine wpList_plain rfl (fun K hK => ?_); go_simp)
 refine HLY.out.mono ?_
 rintro e V2 ⟨L, v, rfl, hly, hb2⟩
 refine hK _ _ ?_
 clear hK K HLY
 obtain ⟨gl, hgl⟩ : ∃ gl, V2.heap.size = gl := ⟨_, rfl⟩
 obtain ⟨FL, hFL⟩ : ∃ FL, L.toArray = FL := ⟨_, rfl⟩
 obtain ⟨V3, hV3⟩ : ∃ V3, V2.alloc (.cells ZL 79) = V3 := ⟨_, rfl⟩
 have hz3 : V3.heap[gl]? = some (.cells ZL 79 (0, 0)) := by rw [<- hV3, <- hgl]; exact World.alloc_heap_new V2 _
 obtain ⟨V4, hV4⟩ : ∃ V4, V3.setRow gl FL = V4 := ⟨_, rfl⟩
 have hA4 : Arr V4 gl 79 L := by rw [<- hV4]; unfold Arr; rw [hFL]; exact setRow_heap _ _ _ _ _ _ hz3
 have hb4 : Below V2.heap.size V2 V4 := by rw [<- hV4, <- hV3]; exact (new12 _ _).trans (below_row (Nat.le_of_eq hgl))
 have HLS : Hid ((Tryz.prog.info? 79).map (·.size) = some FL.size) := Lh (by rw [ly_info, <- hFL, hly.1])
 have HLQ : Hid (ZL.size = FL.size) := Lh (by rw [<- hFL, hly.1, <- HZL.out]; rfl)
 have HLO : Hid (FL.all (·.oneCell') = true) := Lh (by rw [<- hFL]; exact hly.2.1)
 have hcs := (hly.later hb4).2.2
 have HA4 := Lh hA4
 have HZ3 := Lh hz3
 have HV3 := Lh hV3
 have HV4 := Lh hV4
 have HGL := Lh hgl
 have HFL := Lh hFL
 have HB4 := Lh (Ks (Ks HB1.out hb2) hb4)
 have HCS := Lh hcs
 rw [hFL]
 clear hly hb2 hgl hFL hV3 hz3 hV4 hA4 hb4 hcs
 iterate 4 (refine wpList_plain rfl (fun K hK => ?_); go_simp; refine hK _ _ ?_; clear hK K)
 rw [HV3.out, HGL.out]
 refine wpList_store_rowTo rfl 79 (.tmp 11) (.tmp 20) rfl rfl gl FL rfl rfl 79 ZL HZ3.out HLS.out HLQ.out HLO.out ?_
 rw [HV4.out]
 clear HV3 HV4 HZ3
 (refine wpList_plain rfl (fun K hK => ?_); go_simp; refine hK _ _ ?_; clear hK K)
 rcases HCS.out with ⟨hr, rfl, xs, go, q, rfl, h5, hx, hO⟩ | ⟨hr, hsv, hn1, hn2⟩
 rotate_left
 ·have hne := Da.rdy16_none hr (fun _ => if 0 <= j /\ j < p.se then 0 else 18)
  have HF1 : Hid (PV = 0) := Lh (by rw [<- HPV.out]; exact if_neg hne)
  have HF3 : Hid (RS = []) := Lh (by rw [<- HRS.out]; exact if_neg hne)
  have HF2 : Hid (SeV A p (Da.jbad16 K9 N p j) V4 v) := Lh (sev_none16 hsv hr _)
  clear hr hsv HCS hne
  go_wp2_with fail
  refine bodyPost_ret (results_tmp3 rfl _ _ _) rfl ?_
  exact ⟨.slice none 0 0, v, by rw [HF1.out]; rfl, by rw [HF3.out]; exact RowV.nil _, HF2.out, HB4.out⟩
 have h0 := Da.rdy16_both hr
 have hR := Da.right15 h0.1
 have hn4 := Da.n16_le2 hR
 have hse0 := hR.e0
 have hse1 := hR.e1
 have HH0 := Lh h0
 have HRR := Lh hR
 have hly4 : Ly16At K9 N p (lyL16 xs (some ⟨go, 0, none⟩) (Da.tot15 p.sz : Int)) V4 := ⟨xs, go, q, rfl, h5, hx, hO⟩
 have hss := sents16_any K9 N p hR _ V4 hly4
 rw [HFL.out] at hss
 have HSS := Lh hss
 have HX4 := Lh hx
 have HO4 := Lh hO
 have HC5 : Hid (∀ w', Below V4.heap.size V4 w' -> w'.cell? ⟨gl, 5, none⟩ = some (.pointer (some ⟨go, 0, none⟩))) := Lh fun w' hb => by rw [(HA4.out.later hb HA4.out.lt).cell, ly_at5 h5]
 have HC6 : Hid (∀ w', Below V4.heap.size V4 w' -> w'.cell? ⟨gl, 6, none⟩ = some (.int .i64 (Da.tot15 p.sz : Int))) := Lh fun w' hb => by rw [(HA4.out.later hb HA4.out.lt).cell, ly_at6 h5]
 have HCI : Hid (∀ w' i, i < 5 -> Below V4.heap.size V4 w' -> w'.cell? ⟨gl, i, none⟩ = xs[i]?) := Lh fun w' i hi hb => by rw [(HA4.out.later hb HA4.out.lt).cell, ly_at h5 _ _ i hi]
 have HFH : Hid (V4.heap[gl]? = some (.cells FL 79 (0, 0))) := Lh (by have := HA4.out; unfold Arr at this; rw [HFL.out] at this; exact this)
 obtain ⟨T, hT⟩ : ∃ T, Da.tot15 p.sz = T := ⟨_, rfl⟩
 rw [hT] at HC6
 obtain ⟨n, hne⟩ : ∃ n, Da.n16 p = n := ⟨_, rfl⟩
 have hnT : n = T + p.se.toNat := by rw [<- hne, <- hT]; rfl
 rw [hne] at hn4
 have HN4 := Lh hn4
 have HNE := Lh hne
 have HTT := Lh hT
 have HNT := Lh hnT
 have HS1 := Lh hse1
 clear hr h5 hx hO h0 hR hly4 hss hT hne hn4 hnT HCS hse0 hse1
 by_cases hj0 : j < 0
 ·have hd : decide (j < 0) = true := decide_eq_true hj0
  have hjb : Da.jbad16 K9 N p j = 18 := by unfold Da.jbad16; rw [if_pos HH0.out.2, if_neg (by omega)]
  have hsn : ¬ Da.sen16 p 18 = 0 := by unfold Da.sen16; rw [if_pos HH0.out.1]; omega
  have HF1 : Hid (PV = 0) := Lh (by rw [<- HPV.out, hjb]; exact if_neg hsn)
  have HF3 : Hid (RS = []) := Lh (by rw [<- HRS.out, hjb]; exact if_neg hsn)
  have HF2 : Hid (∀ w', SeV A p (Da.jbad16 K9 N p j) w' (.iface 256 (.pointer (some (A 17))))) := Lh fun w' => .inr ⟨HH0.out.1, by rw [hjb]; rfl⟩
  have hc17 := (HE.out.later HB4.out).c17
  clear hj0 hjb hsn
  go_upto_region 5 with fail
  go_quiet (fail)
  go_wp2_with fail
  refine bodyPost_ret (results_tmp3 rfl _ _ _) rfl ?_
  exact ⟨.slice none 0 0, _, by rw [HF1.out]; rfl, by rw [HF3.out]; exact RowV.nil _, HF2.out _, Ks HB4.out (Kit.dn' _ _)⟩
 have hd : decide (j < 0) = false := decide_eq_false hj0
 go_upto_region 4 with fail
 apply wp_region_lit
 iterate 3 (refine wpList_plain rfl (fun K hK => ?_); go_simp; refine hK _ _ ?_; clear hK K)
 (refine BigFrame.wpList_want (by rfl) (fun K hK => ?_); go_simp; refine hK _ _ ?_; clear hK K)
 refine BigFrame.wpList_want (by rfl) (fun K hK => wp_load_row 79 (.tmp 11) rfl gl rfl 79 FL (0, 0) _ HFH.out Tryz.underlying79 rfl HLS.out (hK _ _ ?_))
 (refine BigFrame.wpList_want (by rfl) (fun K hK => ?_); go_simp)
 refine HSS.out.mono ?_
 rintro e V5 ⟨rfl, hb5⟩
 refine hK _ _ ?_
 clear hK K HSS
 have HB5 := Lh (Ks HB4.out hb5)
 have HL5 := Lh hb5
 clear hb5
 by_cases hj1 : j < p.se
 rotate_left
 ·have hd1 : decide (j >= p.se) = true := decide_eq_true (by omega)
  have hd2 : decide (p.se <= j) = true := decide_eq_true (by omega)
  have hjb : Da.jbad16 K9 N p j = 18 := by unfold Da.jbad16; rw [if_pos HH0.out.2, if_neg (by omega)]
  have hsn : ¬ Da.sen16 p 18 = 0 := by unfold Da.sen16; rw [if_pos HH0.out.1]; omega
  have HF1 : Hid (PV = 0) := Lh (by rw [<- HPV.out, hjb]; exact if_neg hsn)
  have HF3 : Hid (RS = []) := Lh (by rw [<- HRS.out, hjb]; exact if_neg hsn)
  have HF2 : Hid (∀ w', SeV A p (Da.jbad16 K9 N p j) w' (.iface 256 (.pointer (some (A 17))))) := Lh fun w' => .inr ⟨HH0.out.1, by rw [hjb]; rfl⟩
  have hc17 := (HE.out.later HB5.out).c17
  clear hj0 hj1 hjb hsn
  (refine BigFrame.wpList_want (by rfl) (fun K hK => ?_); go_simp; refine hK _ _ ?_; clear hK K)
  (refine wpList_plain rfl (fun K hK => ?_); go_simp; refine hK _ _ ?_; clear hK K)
  go_upto_region 5 with fail
  go_quiet (fail)
  go_wp2_with fail
  refine bodyPost_ret (results_tmp3 rfl _ _ _) rfl ?_
  exact ⟨.slice none 0 0, _, by rw [HF1.out]; rfl, by rw [HF3.out]; exact RowV.nil _, HF2.out _, Ks HB5.out (Kit.dn' _ _)⟩
 have hd1 : decide (j >= p.se) = false := decide_eq_false (by omega)
 have hd2 : decide (p.se <= j) = false := decide_eq_false (by omega)
 (refine BigFrame.wpList_want (by rfl) (fun K hK => ?_); go_simp; refine hK _ _ ?_; clear hK K)
 (refine wpList_plain rfl (fun K hK => ?_); go_simp; refine hK _ _ ?_; clear hK K)
 clear hd hd1 hd2
 have hjb : Da.jbad16 K9 N p j = 0 := by unfold Da.jbad16; rw [if_pos HH0.out.2, if_pos ⟨by omega, hj1⟩]
 have hsn : Da.sen16 p 0 = 0 := by unfold Da.sen16; rw [if_pos HH0.out.1]
 have HF1 : Hid (PV = Da.jat16 K9 N p j) := Lh (by rw [<- HPV.out, hjb]; exact if_pos hsn)
 have HF3 : Hid (RS = Da.tg16 (Da.key16 K9 N 3) ((Da.jat16 K9 N p j : Nat) : Int) (Da.sb (Da.key16 K9 N 2) j)) := Lh (by rw [<- HRS.out, hjb]; exact if_pos hsn)
 have HF2 : Hid (∀ w', SeV A p (Da.jbad16 K9 N p j) w' .nilIface) := Lh fun w' => .inr ⟨HH0.out.1, by rw [hjb]; rfl⟩
 obtain ⟨m, hm⟩ : ∃ m : Nat, j = (m : Int) := ⟨j.toNat, by omega⟩
 subst hm
 have hmn : T + m < n := by have := HNT.out; omega
 have hn4 := HN4.out
 have hto := oto_in go q (Da.key16 K9 N 1) n (by omega) (T + m) hmn A V5 (by have := HO4.out.later HL5.out; rw [HNE.out] at this; exact this) (HV.out.later HB5.out) (HE.out.later HB5.out).e11
 have hpv : Da.pto (Da.key16 K9 N 1) n (T + m) = PV := by rw [HF1.out]; unfold Da.jat16 Da.to16; rw [HNE.out, HTT.out, Int.toNat_natCast]
 have hpn : PV < 512 := by
  have := Da.pto_lt (k := Da.key16 K9 N 1) (by omega : n <= 1048576) hmn
  rw [hpv] at this
  omega
 rw [hpv] at hto
 have hws : IntKind.i64.wrap ((T : Int) + (m : Int)) = ((T + m : Nat) : Int) := by rw [IntKind.wrap_i64]; omega
 have HTO := Lh hto
 have HPN := Lh hpn
 have HMM : Hid (m <= 400) := Lh (by omega)
 have hc5 := HC5.out V5 HL5.out
 have hc6 := HC6.out V5 HL5.out
 clear hj0 hj1 hjb hsn hmn hn4 hto hpv hpn hj
 go_upto_region 6 with fail
 apply wp_region_lit
 iterate 6 (refine wpList_plain rfl (fun K hK => ?_); go_simp; refine hK _ _ ?_; clear hK K)
 (refine wpList_plain rfl (fun K hK => ?_); go_simp)
 refine HTO.out.mono ?_
 rintro e V6 ⟨rfl, hb6⟩
 refine hK _ _ ?_
 clear hK K HTO hc5 hc6 hws
 have HL6 := Lh (Ks HL5.out hb6)
 have HB6 := Lh (Ks HB5.out hb6)
 clear hb6
 iterate 5 (refine wpList_plain rfl (fun K hK => ?_); go_simp; refine hK _ _ ?_; clear hK K)
 have hx6 := HX4.out.later HL6.out
 obtain ⟨x2, hx2, hr2⟩ := hx6.key16 2 (by omega)
 have hk2l := Da.key16_length K9 N 2 (by omega)
 obtain ⟨o2, c2, rfl, hr2⟩ := hr2
 have hbk := cblk_any (Da.key16 K9 N 2) o2 c2 (m : Int) A V6 hr2 (HV.out.later HB6.out) (HE.out.later HB6.out).e10 (by rw [hk2l]; omega)
 have hrb0 : Da.rb (m : Int) = 0 := by unfold Da.rb; rw [Da.inR16 _ (by have := HMM.out; omega)]; rfl
 rw [hrb0, hk2l] at hbk
 rw [hk2l] at hx2
 have hc2 : V6.cell? ⟨gl, 2, none⟩ = some (.slice o2 32 c2) := by rw [HCI.out V6 2 (by omega) HL6.out]; exact hx2
 have HBK := Lh hbk
 clear hx6 hx2 hr2 hk2l hbk hrb0
 go_upto_region 9 with fail
 apply wp_region_lit
 iterate 4 (refine wpList_plain rfl (fun K hK => ?_); go_simp; refine hK _ _ ?_; clear hK K)
 (refine wpList_plain rfl (fun K hK => ?_); go_simp)
 refine HBK.out.mono ?_
 rintro e V7 ⟨xb, rfl, hxb, hb7⟩
 refine hK _ _ ?_
 clear hK K HBK hc2
 have HL7 := Lh (Ks HL6.out hb7)
 have HB7 := Lh (Ks HB6.out hb7)
 obtain ⟨ob, cb, rfl, hrb⟩ := hxb
 have hl8 : (Da.kres 0 (Da.sb (Da.key16 K9 N 2) (m : Int))).length = 8 := by
  show (Da.sb _ _).length = 8
  exact Da.sb_length _ _
 rw [hl8]
 have HRB := Lh (show RowIs V7 ob (bytesV (Da.sb (Da.key16 K9 N 2) (m : Int))) cb from hrb)
 clear hb7 hrb hl8
 rw [errV_nil]
 iterate 5 (refine wpList_plain rfl (fun K hK => ?_); go_simp; refine hK _ _ ?_; clear hK K)
 have hx7 := HX4.out.later HL7.out
 obtain ⟨x3, hx3, hr3⟩ := hx7.key16 3 (by omega)
 have hk3l := Da.key16_length K9 N 3 (by omega)
 obtain ⟨o3, c3, rfl, hr3⟩ := hr3
 have hmk := kmake_any (Da.key16 K9 N 3) o3 c3 V7 hr3 (HV.out.later HB7.out) (by rw [hk3l]; omega)
 rw [hk3l] at hmk hx3
 have hc3 : V7.cell? ⟨gl, 3, none⟩ = some (.slice o3 32 c3) := by rw [HCI.out V7 3 (by omega) HL7.out]; exact hx3
 have HMK := Lh hmk
 clear hx7 hx3 hr3 hk3l hmk
 obtain ⟨gm, hgm⟩ : ∃ gm, V7.heap.size = gm := ⟨_, rfl⟩
 rw [hgm] at HMK
 have HGM := Lh hgm
 clear hgm
 go_upto_region 12 with fail
 apply wp_region_lit
 iterate 4 (refine wpList_plain rfl (fun K hK => ?_); go_simp; refine hK _ _ ?_; clear hK K)
 (refine wpList_plain rfl (fun K hK => ?_); go_simp)
 refine HMK.out.mono ?_
 rintro e V8 ⟨rfl, hA8, hb8⟩
 rw [<- HGM.out] at hb8
 refine hK _ _ ?_
 clear hK K hc3 HMK
 have htg := tagged16_any (Da.key16 K9 N 3) (Da.sb (Da.key16 K9 N 2) (m : Int)) gm (PV : Int) ob cb V8 hA8 (HRB.out.later hb8) (HV.out.later (Ks HB7.out hb8)) (by rw [Da.sb_length]; omega)
 rw [Da.sb_length] at htg
 have HTG := Lh htg
 have HB8 := Lh (Ks HB7.out hb8)
 clear htg hA8 hb8
 iterate 2 (refine wpList_plain rfl (fun K hK => ?_); go_simp; refine hK _ _ ?_; clear hK K)
 (refine wpList_plain rfl (fun K hK => ?_); go_simp)
 refine HTG.out.mono ?_
 rintro e V9 ⟨x, rfl, hx9, hb9⟩
 refine hK _ _ ?_
 clear hK K HTG
 have HX9 := Lh hx9
 have HB9 := Lh (Ks HB8.out hb9)
 clear hx9 hb9
 go_wp2_with fail
 refine bodyPost_ret (results_tmp3 rfl _ _ _) rfl ?_
 exact ⟨x, .nilIface, rfl, by rw [HF3.out, <- HF1.out]; exact HX9.out, HF2.out _, HB9.out⟩
theorem sentinel16c_any (A : Nat -> Addr) (W : World) (oK : Option Addr) (cK : Nat) (K9 : List UInt8) (N : Int) (p : Pm15) (j : Int) (hK9 : RowIs W oK (bytesV K9) cK) (hKl : K9.length <= 100) (hN : in64 N) (hj : in64 j) (hok : p.ok) (hV : Cds W) (hE : E16 W A) :
    Calls Tryz.prog 20 #[.slice oK K9.length cK, .int .i64 N, .agg (pmA p), .int .i64 j] W fun e w' => ∃ x v, e = .returned (.tuple #[.int .i64 ((if Da.sen16 p (Da.jbad16 K9 N p j) = 0 then Da.jat16 K9 N p j else 0 : Nat) : Int), x, v]) /\ RowV (if Da.sen16 p (Da.jbad16 K9 N p j) = 0 then Da.tg16 (Da.key16 K9 N 3) ((Da.jat16 K9 N p j : Nat) : Int) (Da.sb (Da.key16 K9 N 2) j) else []) x w' /\ SeV A p (Da.jbad16 K9 N p j) w' v /\ Below W.heap.size W w' := sentinel16c_of _ rfl ly_zero A W oK cK K9 N p j hK9 hKl hN hj hok hV hE
end Go.Proofs.YtffheegeaghfjaaGreatDoor

namespace Go.Proofs.YtffheegeaghfjaaGreatDoor
open Go.RowKit
section
variable {P : Program} {md : Region.Mode} {ops : Array Oper} {Q : Exit -> Act -> World -> Prop} {S : World -> Prop} {fuel : Nat} {listed : Array Bool} {a : Act} {w : World}
end
theorem slc16 (A : Nat -> Addr) : SlC A where
 sl := slm16 A
 place := fun W oK cK K9 N p i hK hk hN hi hp hV hE => place16c_any A W oK cK K9 N p i hK hk hN hi hp hV hE
 back := fun W oK cK K9 N p i hK hk hN hi hp hV hE => back16c_any A W oK cK K9 N p i hK hk hN hi hp hV hE
 sentinel := fun W oK cK K9 N p j hK hk hN hj hp hV hE => sentinel16c_any A W oK cK K9 N p j hK hk hN hj hp hV hE
 tagged := fun W oK cK K9 N n oB cB B hK hB hk hb hN hn hV hE => tagged16c_any A W oK cK K9 N n oB cB B hK hB hk hb hN hn hV hE
 tag := fun W oK cK K9 N n oB cB B hK hB hk hb hN hn hV hE => tag16c_any A W oK cK K9 N n oB cB B hK hB hk hb hN hn hV hE
 parts := fun W oB cB B hB hb hE => parts16_any A W oB cB B hB hb hE
end Go.Proofs.YtffheegeaghfjaaGreatDoor
