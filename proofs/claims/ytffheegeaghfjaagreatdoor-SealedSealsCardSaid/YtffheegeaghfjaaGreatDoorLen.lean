/- Len -/
import Derived.Test.YtffheegeaghfjaaGreatDoorChecked
import Derived.Lib.Strings
import Derived.Lib.Slices
import Derived.Lib.Small
import Derived.Lib.Walk
import Derived.Lib.BitFns
set_option linter.unusedVariables false
set_option linter.unusedSimpArgs false
set_option maxRecDepth 100000
set_option maxHeartbeats 8000000
namespace Go.Proofs.YtffheegeaghfjaaGreatDoor
theorem len_cut (x y : Int) (k K : Nat) (hK : K = 2 ^ k) (h0 : 0 <= x) (h1 : x <= 18446744073709551615) (hy : y = x / (K : Int)) (hl : y < 256) (hp : k = 0 ∨ 1 <= y) :
    Lib.len8 (y % 256) = (Lib.bitLen x.toNat : Int) - k /\ k <= Lib.bitLen x.toNat /\ Lib.bitLen x.toNat <= k + 8 := by
 obtain ⟨X, rfl⟩ : ∃ X : Nat, x = (X : Int) := ⟨x.toNat, by omega⟩
 have e1 : y = ((X / K : Nat) : Int) := by rw [hy]; simp
 obtain ⟨Z, hZ⟩ : ∃ Z, X / K = Z := ⟨_, rfl⟩
 have e2 : (y % 256).toNat = X / K := by rw [hZ] at e1 ⊢; omega
 have e3 : 0 <= y % 256 /\ y % 256 <= 255 := by omega
 have l := Lib.bitLen_le8' (y % 256) e3.1 e3.2
 rw [Lib.len8_of (y % 256) e3.1 e3.2]
 rw [e2] at l ⊢
 rw [Int.toNat_natCast]
 rcases hp with rfl | hp
 ·obtain rfl : K = 1 := hK
  rw [Nat.div_one] at l ⊢
  omega
 ·have h2 : 2 ^ k <= X := by
   rw [<- hK]
   apply Nat.le_of_not_lt
   intro h
   rw [Nat.div_eq_of_lt h] at e1
   omega
  have s := Lib.bitLen_shift k X h2 (by omega)
  rw [<- hK] at s
  omega
theorem len64_any (x : Int) (w : World) (h0 : 0 <= x) (h1 : x <= 18446744073709551615) :
    Calls Tryz.prog 178 #[.int .u64 x] w fun e w' => e = .returned (.int .i64 (Lib.bitLen x.toNat)) /\ w' = w := by
 go_enter Tryz.func178, Tryz.ntmps178
 go_wp2
 all_goals (go_ret; refine ⟨congrArg Ending.returned (congrArg (Value.int IntKind.i64) ?_), rfl⟩)
 ·obtain ⟨a, b, c⟩ := len_cut x (x / 4294967296 / 65536 / 256) 56 72057594037927936 rfl h0 h1 (by omega) (by omega) (by omega)
  rw [a]; omega
 ·obtain ⟨a, b, c⟩ := len_cut x (x / 4294967296 / 65536) 48 281474976710656 rfl h0 h1 (by omega) (by omega) (by omega)
  rw [a]; omega
 ·obtain ⟨a, b, c⟩ := len_cut x (x / 4294967296 / 256) 40 1099511627776 rfl h0 h1 (by omega) (by omega) (by omega)
  rw [a]; omega
 ·obtain ⟨a, b, c⟩ := len_cut x (x / 4294967296) 32 4294967296 rfl h0 h1 (by omega) (by omega) (by omega)
  rw [a]; omega
 ·obtain ⟨a, b, c⟩ := len_cut x (x / 65536 / 256) 24 16777216 rfl h0 h1 (by omega) (by omega) (by omega)
  rw [a]; omega
 ·obtain ⟨a, b, c⟩ := len_cut x (x / 65536) 16 65536 rfl h0 h1 (by omega) (by omega) (by omega)
  rw [a]; omega
 ·obtain ⟨a, b, c⟩ := len_cut x (x / 256) 8 256 rfl h0 h1 (by omega) (by omega) (by omega)
  rw [a]; omega
 ·obtain ⟨a, b, c⟩ := len_cut x x 0 1 rfl h0 h1 (by omega) (by omega) (by omega)
  rw [a]; omega
theorem len_any (x : Int) (w : World) (h0 : 0 <= x) (h1 : x <= 18446744073709551615) :
    Calls Tryz.prog 167 #[.int .u64 x] w fun e w' => e = .returned (.int .i64 (Lib.bitLen x.toNat)) /\ w' = w := by
 have H := (len64_any x w h0 h1)
 go_enter Tryz.func167, Tryz.ntmps167
 go_wp2_with fail
 refine H.mono ?_
 rintro e w' ⟨rfl, rfl⟩
 go_wp2_with fail
 go_ret
 exact ⟨rfl, rfl⟩
end Go.Proofs.YtffheegeaghfjaaGreatDoor
