/- The document's own rest modulo 255. -/
import Derived.Test.YtegipidipkikgaaDoorFw
namespace Go.Proofs.YtegipidipkikgaaDoor
open Go.RowKit
set_option linter.unusedVariables false
theorem rest_any (n : Int) (w : World) :
    Calls Tryd.prog 22 #[.int .i64 n] w fun e w' => e = .returned (.int .i64 (n % 255)) ∧ w = w' := by
  by_cases h0 : 0 ≤ n
  · have h1 : 0 ≤ n % 255 := by omega
    go_enter Tryd.func22, Tryd.ntmps22
    go_wp2
    go_ret
    exact ⟨rfl, rfl⟩
  · obtain ⟨m, rfl⟩ : ∃ m : Int, n = -m := ⟨-n, by omega⟩
    have ht : (-m).tmod 255 = - (m % 255) := by rw [Int.neg_tmod, Int.tmod_eq_emod_of_nonneg (by omega)]
    by_cases h2 : m % 255 = 0
    · have hlo : 0 ≤ (-m).tmod 255 := by omega
      clear ht
      go_enter Tryd.func22, Tryd.ntmps22
      go_wp2
      go_ret
      exact ⟨ret_int (by omega), rfl⟩
    · have hlo : (-m).tmod 255 < 0 := by omega
      have hlo2 : -255 < (-m).tmod 255 := by omega
      clear ht
      go_enter Tryd.func22, Tryd.ntmps22
      go_wp2
      go_ret
      exact ⟨ret_int (by omega), rfl⟩

end Go.Proofs.YtegipidipkikgaaDoor
