/-
  DERIVED. GIVEN WITH THE SEED: THE PROGRAM's TIES (one call each: nine closed facts by the kernel) AND EACH ROW's TIE, after the 31st guide's Derived/Test/Toyas{Tie, Card}.lean. No idea stands in it: it is a product of the set-up. Laid BY PROGRAM, IN A SANDBOX (cutbox-door.mjs). By AI agents, Wed Nov 11 2026. No macro, syntax, notation, axiom, sorry.
-/
import Derived.Test.YtjfbjonbgljcfaaDoorRows
import Derived.LaidByTextLater
import Derived.SevenTiedAt
import Derived.LaidSub
import Derived.LaidOnce
namespace Go.Proofs.YtjfbjonbgljcfaaDoor
open Go
set_option maxRecDepth 100000
theorem seatTie1 : Tryd.prog.laidByTextLater [("bailee/baileeref07.begins", Rows.laid_bailee_baileeref07_begins), ("bailee/baileeref07.added", Rows.laid_bailee_baileeref07_added), ("bailee/sha.beginning", Rows.laid_bailee_sha_beginning), ("bailee/sha.cubes", Rows.laid_bailee_sha_cubes)] [.data, .data, .data, .data] true :=
  Program.laidByTextLater_by_one 29 8 65 (by kernel_rfl) (by kernel_rfl) (by kernel_rfl) (by kernel_rfl) (by kernel_rfl) (by kernel_rfl) (fun _ _ => by kernel_rfl)
theorem noOwnUnsafe : Tryd.pinned.checked.prog.headLifts.contains "ownunsafe" = false := by kernel_rfl
theorem tie : Tryd.prog.laidByTextLater [("bailee/baileeref07.begins", Rows.laid_bailee_baileeref07_begins), ("bailee/baileeref07.added", Rows.laid_bailee_baileeref07_added), ("bailee/sha.beginning", Rows.laid_bailee_sha_beginning), ("bailee/sha.cubes", Rows.laid_bailee_sha_cubes)] [.data, .data, .data, .data] true :=
  Program.laidByTextLater.sub seatTie1 ["bailee/baileeref07.begins", "bailee/baileeref07.added", "bailee/sha.beginning", "bailee/sha.cubes"] (by kernel_rfl) (by kernel_rfl)
theorem macKeys_row_tie : Rows.macKeysRow.laidByTextAt .later Tryd.pinned [.data, .data, .data, .data] true :=
  OpenClaim.laidByTextAt_later rfl rfl tie noOwnUnsafe
theorem macRight_row_tie : Rows.macRightRow.laidByTextAt .later Tryd.pinned [.data, .data, .data, .data] true :=
  OpenClaim.laidByTextAt_later rfl rfl tie noOwnUnsafe
theorem macKeysUpto_row_tie : Rows.macKeysUptoRow.laidByTextAt .later Tryd.pinned [.data, .data, .data, .data] true :=
  OpenClaim.laidByTextAt_later rfl rfl tie noOwnUnsafe
theorem macRightUpto_row_tie : Rows.macRightUptoRow.laidByTextAt .later Tryd.pinned [.data, .data, .data, .data] true :=
  OpenClaim.laidByTextAt_later rfl rfl tie noOwnUnsafe
end Go.Proofs.YtjfbjonbgljcfaaDoor
