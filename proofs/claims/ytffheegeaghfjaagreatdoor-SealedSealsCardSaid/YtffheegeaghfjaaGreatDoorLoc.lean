/- Loc -/
import Derived.BigQuiet
import Derived.StillTailTactics
import Derived.Deep.RegionHeld3
import Derived.BigRegion
import Derived.Laws.EntriesVeiled
import Derived.Test.YtffheegeaghfjaaGreatDoorIns
set_option linter.unusedVariables false
set_option linter.unusedSimpArgs false
set_option maxRecDepth 100000
set_option maxHeartbeats 8000000
namespace Go.Proofs.YtffheegeaghfjaaGreatDoor
namespace Gf
def ny (G : List UInt8) (y : UInt8) : List UInt8 := tab (fun m => co G m ^^^ gm y (if m = 0 then 0 else co G (m - 1))) (G.length + 1)
@[simp] theorem ny_length (G : List UInt8) (y : UInt8) : (ny G y).length = G.length + 1 := by simp [ny]
end Gf
end Go.Proofs.YtffheegeaghfjaaGreatDoor
namespace Go.Proofs.YtffheegeaghfjaaGreatDoor
theorem nodup_sub {α : Type} [DecidableEq α] (a b : List α) (h : a.Nodup) (hs : ∀ x ∈ a, x ∈ b) : a.length <= b.length := by
 induction a generalizing b with
 | nil => simp
 | cons x a ih =>
  have hx := hs x (by simp)
  have hn := List.nodup_cons.1 h
  have := ih (b.erase x) hn.2 fun y hy => by
   have hne : y ≠ x := fun e => hn.1 (e ▸ hy)
   exact (List.mem_erase_of_ne hne).2 (hs y (by simp [hy]))
  rw [List.length_erase_of_mem hx] at this
  have := List.length_pos_of_mem hx
  simp; omega
end Go.Proofs.YtffheegeaghfjaaGreatDoor
namespace Go.Proofs.YtffheegeaghfjaaGreatDoor
open Go.RowKit
section
variable {P : Program} {ops : Array Oper} {Q : Exit -> Act -> World -> Prop} {i : Nat} {o : Oper} {b : Act} {v v' : World} {x : Value} {K : Act -> World -> Prop}
end
end Go.Proofs.YtffheegeaghfjaaGreatDoor
namespace Go.Proofs.YtffheegeaghfjaaGreatDoor
open Go.RowKit
section
variable {b T : Nat} {Ct : Array Value} {vn vl vo vw va : Value} {w w' : World}
end
end Go.Proofs.YtffheegeaghfjaaGreatDoor
namespace Go.Proofs.YtffheegeaghfjaaGreatDoor
open Go.RowKit
attribute [local go_sem] Oper.semAt_some
end Go.Proofs.YtffheegeaghfjaaGreatDoor
namespace Go.Proofs.YtffheegeaghfjaaGreatDoor
open Go.RowKit
def EOk (n : Nat) (z : List Int) : Prop := (∀ k, k < z.length -> 0 <= ci z k /\ ci z k < n) /\ (∀ i j, j < i -> i < z.length -> ci z i ≠ ci z j) /\ z.length <= 32
end Go.Proofs.YtffheegeaghfjaaGreatDoor
