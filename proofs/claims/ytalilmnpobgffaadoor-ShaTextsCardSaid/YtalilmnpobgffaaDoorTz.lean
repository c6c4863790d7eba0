/- Which digest's bytes are ahead: the code's Less. -/
import Derived.Test.YtalilmnpobgffaaDoorTy
import Derived.Lib.BytesEntry
namespace Go.Proofs.YtalilmnpobgffaaDoor
open Go.RowKit
set_option linter.unusedVariables false
set_option linter.unusedSimpArgs false
theorem less_cmp : ∀ x y : List UInt8, decide (Lib.compareBytes x y < 0) = Op.bytesLess x y
  | [], [] => rfl
  | [], _ :: _ => rfl
  | _ :: _, [] => rfl
  | a :: x', b :: y' => by
    simp only [Lib.compareBytes, Op.bytesLess]
    by_cases h : a < b
    · simp [h]
    · by_cases h2 : b < a
      · have hne : ¬ a = b := fun e => by subst e; exact h h2
        simp [h, h2, hne]
      · have he : a = b := by
          apply UInt8.toNat_inj.1
          have h3 : ¬ a.toNat < b.toNat := h
          have h4 : ¬ b.toNat < a.toNat := h2
          omega
        subst he
        simp [h, less_cmp x' y']
theorem load_bytes {P : Program} {W : World} {g c : Nat} {d : List UInt8} (h : RowIs W (some ⟨g, 0, none⟩) (bytesV d) c) : (Extern.Bytes.bytesOf (.slice (some ⟨g, 0, none⟩) d.length c)).run P W = .ok ⟨d.toArray⟩ W := by
  have hl := Lib.run_loadBytesX (P := P) W (d.map fun x => (x.toNat : Int)) ⟨g, 0, none⟩ .empty (fun j x hj => by
    refine h.adds _ rfl j _ ?_
    rw [List.getElem?_map] at hj
    rw [bytesV, List.getElem?_map]
    cases hd : d[j]? with
    | none => rw [hd] at hj; cases hj
    | some y => rw [hd] at hj; cases hj; rfl)
  rw [List.length_map] at hl
  show (Extern.Bytes.loadBytes ⟨g, 0, none⟩ d.length .empty).run P W = _
  rw [hl]
  congr 1
  apply ByteArray.ext
  show (#[] : Array UInt8) ++ (Lib.bytesOf (d.map fun x => (x.toNat : Int))).toArray = d.toArray
  simp [Lib.bytesOf, Function.comp_def]
theorem cmp_any (x y : List UInt8) (g1 g2 c1 c2 : Nat) (w : World) (h1 : RowIs w (some ⟨g1, 0, none⟩) (bytesV x) c1) (h2 : RowIs w (some ⟨g2, 0, none⟩) (bytesV y) c2) :
    Calls Tryd.prog 24 #[.slice (some ⟨g1, 0, none⟩) x.length c1, .slice (some ⟨g2, 0, none⟩) y.length c2] w fun e w' => e = .returned (.int .i64 (Lib.compareBytes x y)) ∧ w' = w := by
  have h8 := @run_callFunc_extern Tryd.prog 31 _ Extern.BytealgCompare.compare Tryd.func31 (by kernel_rfl) (by kernel_rfl) (by kernel_rfl) (by kernel_rfl)
  have h9 : (Extern.BytealgCompare.compare #[.slice (some ⟨g1, 0, none⟩) x.length c1, .slice (some ⟨g2, 0, none⟩) y.length c2]).run Tryd.prog w = .ok (.int .i64 (Lib.compareBytes x y)) w := by
    have hs := Lib.run_compareString (P := Tryd.prog) ⟨x.toArray⟩ ⟨y.toArray⟩ w
    change Sem.run Tryd.prog (do pure (goInt (Extern.BytealgCompare.cmp (← Extern.Bytes.bytesOf (.string ⟨x.toArray⟩)) (← Extern.Bytes.bytesOf (.string ⟨y.toArray⟩))))) w = _ at hs
    change Sem.run Tryd.prog (do pure (goInt (Extern.BytealgCompare.cmp (← Extern.Bytes.bytesOf (.slice (some ⟨g1, 0, none⟩) x.length c1)) (← Extern.Bytes.bytesOf (.slice (some ⟨g2, 0, none⟩) y.length c2))))) w = _
    simp only [Sem.run_bind, load_bytes h1, load_bytes h2, Result.andThen] at hs ⊢
    exact hs
  clear h1 h2
  go_enter Tryd.func24, Tryd.ntmps24
  go_wp2_with fail
  go_ret
  exact ⟨rfl, rfl⟩
set_option maxRecDepth 100000 in
theorem less_any (x y : List UInt8) (hx : x.length = 32) (hy : y.length = 32) (w : World) :
    Calls Tryd.prog 18 #[.agg (bytesV x).toArray, .agg (bytesV y).toArray] w fun e w' => e = .returned (.bool (Op.bytesLess x y)) ∧ Below w.heap.size w w' := by
  obtain ⟨C, hC⟩ : ∃ C, (bytesV x).toArray = C := ⟨_, rfl⟩
  obtain ⟨D, hD⟩ : ∃ D, (bytesV y).toArray = D := ⟨_, rfl⟩
  rw [hC, hD]
  obtain ⟨g, hg⟩ : ∃ g, w.heap.size = g := ⟨_, rfl⟩
  obtain ⟨W2, hW2⟩ : ∃ W2, (w.alloc (.cells C 28)).alloc (.cells D 28) = W2 := ⟨_, rfl⟩
  have hs1 : (w.alloc (.cells C 28)).heap.size = g + 1 := by rw [World.size_alloc, hg]
  have hA0 : Arr (w.alloc (.cells C 28)) g 28 (bytesV x) := by rw [← hC, ← hg]; exact Arr.made _ _ _
  have hA : Arr W2 g 28 (bytesV x) := by rw [← hW2]; exact hA0.alloc _
  have hB : Arr W2 (g + 1) 28 (bytesV y) := by rw [← hW2, ← hD, ← hs1]; exact Arr.made _ _ _
  have HB : Hid (Below w.heap.size w W2) := Lib.hid (by rw [← hW2]; exact ((Below.refl _ _).alloc (Nat.le_refl _) _).alloc (by rw [World.size_alloc]; omega) _)
  have CM : Hid (∀ n, Calls Tryd.prog 24 #[.slice (some ⟨g, 0, none⟩) 32 32, .slice (some ⟨g + 1, 0, none⟩) 32 32] (W2.drewN n) fun e w' => e = .returned (.int .i64 (Lib.compareBytes x y)) ∧ w' = W2.drewN n) := Lib.hid fun n => by
    have := cmp_any x y g (g + 1) x.length y.length (W2.drewN n) ((hA.drewN n).row (by rw [hx]; unfold maxLen; omega)) ((hB.drewN n).row (by rw [hy]; unfold maxLen; omega))
    rw [hx, hy] at this
    exact this
  have HL := Lib.hid (less_cmp x y)
  obtain ⟨r, hr⟩ : ∃ r, Lib.compareBytes x y = r := ⟨_, rfl⟩
  rw [hr] at CM HL
  have HW2 := Lib.hid hW2
  clear hW2 hs1 hA0 hA hB hC hD hr
  go_enter Tryd.func18, Tryd.ntmps18
  go_wp2_with fail
  rw [HW2.out]
  go_quiet ((with_reducible exact Calls.quiet_of_same (CM.out _)))
  go_wp2_with fail
  go_ret
  exact ⟨by rw [← HL.out]; rfl, Kit.dn HB.out nq⟩
end Go.Proofs.YtalilmnpobgffaaDoor
