/- The document's syndromes. -/
import Derived.Test.YtkkmgjjafbjnjaaDoorGf
import Derived.Test.YtkkmgjjafbjnjaaDoorRr
import Derived.Test.YtkkmgjjafbjnjaaDoorTm
import Derived.Test.YtkkmgjjafbjnjaaDoorFm
namespace Go.Proofs.YtkkmgjjafbjnjaaDoor
open Go.RowKit
set_option linter.unusedVariables false
set_option linter.unusedSimpArgs false
/-- a word's syndromes -/
def synL (z : List UInt8) : List UInt8 := tab (fun j => Gf.hv (Gf.al j) z) 32
@[simp] theorem synL_length (z : List UInt8) : (synL z).length = 32 := by simp [synL]
def zsyn : List UInt8 := List.replicate 32 0
theorem zero_syn (w : World) : Sem.run Tryd.prog (zeroValue 34) w = .ok (.agg (bytesV zsyn).toArray) w := by kernel_rfl
def SoAt (z : List UInt8) (w : World) (g g0 : Nat) (x i : Value) (wr : World) : Prop :=
  ∃ k : Nat, k ≤ 32 ∧ i = .int .i64 k ∧ x = .int .u8 ((Gf.al k).toNat : Int) ∧ (∃ ys : List UInt8, ys.length = 32 ∧ (∀ j, j < k → co ys j = Gf.hv (Gf.al j) z) ∧ wr.heap[g]? = some (.cells (bytesV ys).toArray 34 (0, 0))) ∧
    wr.heap[g0]? = some (.cells (bytesV zsyn).toArray 34 (0, 0)) ∧ Below w.heap.size w wr
def SiAt (z : List UInt8) (x : UInt8) (w : World) (v i : Value) (wr : World) : Prop :=
  ∃ k : Nat, k ≤ z.length ∧ i = .int .i64 k ∧ v = .int .u8 ((Gf.hv x (z.take k)).toNat : Int) ∧ wr = w
theorem one_cell (ys : List UInt8) : (bytesV ys).toArray.all (·.oneCell') = true := by
  rw [Array.all_eq_true_iff_forall_mem]
  intro x hx
  simp only [bytesV, List.mem_toArray, List.mem_map] at hx
  obtain ⟨b, _, rfl⟩ := hx
  rfl
theorem syn_info : (Tryd.prog.info? 34).map (·.size) = some 32 := by kernel_rfl
theorem syn_under : Tryd.prog.underlying 34 = some (.array 32 5) := by kernel_rfl
theorem syn_size {ys : List UInt8} (h : ys.length = 32) : (Tryd.prog.info? 34).map (·.size) = some (bytesV ys).toArray.size := by
  rw [syn_info]; simp [h]
theorem take_step (z : List UInt8) (k : Nat) (h : k < z.length) : z.take (k + 1) = z.take k ++ [co z k] := by
  rw [List.take_add_one, List.getElem?_eq_getElem h]
  simp [co, h]
theorem below_setRow {n g : Nat} {w : World} {cs : Array Value} (h : n ≤ g) : Below n w (w.setRow g cs) :=
  ⟨rfl, rfl, rfl, by simp [World.setRow], fun k hk => setRow_other w g k cs (by omega)⟩
theorem cells_set (ys : List UInt8) (i : Nat) (b : UInt8) : (bytesV ys).toArray.setIfInBounds i (.int .u8 (b.toNat : Int)) = (bytesV (ys.set i b)).toArray := by
  rw [← bytesV_set]
  simp
theorem dn_block {a b : World} (h : Kit.Dn a b) (k : Nat) : b.heap[k]? = a.heap[k]? := by
  obtain ⟨n, rfl⟩ := h
  rfl
set_option maxRecDepth 100000 in
set_option maxHeartbeats 2000000 in
theorem rsyn_of (Z : Array Value) (hZ : Z = (bytesV zsyn).toArray) (hzs : ∀ w, Sem.run Tryd.prog (zeroValue 34) w = .ok (.agg Z) w) (z : List UInt8) (o : Option Addr) (c : Nat) (w : World) (hP : RowIs w o (bytesV z) c) :
    Calls Tryd.prog 18 #[.slice o z.length c] w fun e w' => e = .returned (.agg (bytesV (synL z)).toArray) ∧ Below w.heap.size w w' := by
  have h1 := hP.le
  have h2 := hP.cap
  simp only [bytesV_length] at h1
  unfold maxLen at h2
  have HP := Lib.hid hP
  have HZ := Lib.hid hZ
  have hst := one_cell zsyn
  rw [← hZ] at hst
  have hsz := syn_size (ys := zsyn) (by simp [zsyn])
  rw [← hZ] at hsz
  have hg1 : ((w.alloc (.cells Z 34)).alloc (.cells Z 34)).heap[w.heap.size + 1]? = some (.cells Z 34 (0, 0)) := by
    have := World.alloc_heap_new (w.alloc (.cells Z 34)) (.cells Z 34)
    rwa [World.size_alloc] at this
  have hb1 : Below w.heap.size w ((w.alloc (.cells Z 34)).alloc (.cells Z 34)) := ((Below.refl _ _).alloc (Nat.le_refl _) _).alloc (by simp) _
  have HST := Lib.hid hst
  have HSZ := Lib.hid hsz
  have HG1 := Lib.hid hg1
  have HB1 := Lib.hid hb1
  clear hP hZ hst hsz hg1 hb1
  go_enter Tryd.func18, Tryd.ntmps18
  go_wp2_with (refine wpList_store_row rfl 34 (.tmp 3) (.tmp 9) rfl (w.heap.size + 1) Z rfl rfl 34 Z HG1.out HSZ.out rfl HST.out ?_)
  obtain ⟨w2, hw2⟩ : ∃ w2, ((w.alloc (.cells Z 34)).alloc (.cells Z 34)).setRow (w.heap.size + 1) Z = w2 := ⟨_, rfl⟩
  rw [hw2]
  have hg2 : w2.heap[w.heap.size + 1]? = some (.cells (bytesV zsyn).toArray 34 (0, 0)) := by
    rw [← hw2, ← HZ.out]
    exact setRow_heap _ _ _ _ _ _ HG1.out
  have hg3 : w2.heap[w.heap.size]? = some (.cells (bytesV zsyn).toArray 34 (0, 0)) := by
    rw [← hw2, setRow_other _ _ _ _ (by omega), ← HZ.out]
    have := World.alloc_heap_new w (.cells Z 34)
    rw [((Below.refl (w.alloc (.cells Z 34)).heap.size (w.alloc (.cells Z 34))).alloc (Nat.le_refl _) _).block w.heap.size (by simp)]
    exact this
  have hb2 : Below w.heap.size w w2 := by rw [← hw2]; exact HB1.out.trans (below_setRow (by omega))
  have HG2 := Lib.hid hg2
  have HG3 := Lib.hid hg3
  have HB2 := Lib.hid hb2
  have hs2 := hb2.size
  clear hw2 hg2 hg3 hb2 hzs HST HSZ HG1 HB1 HZ
  obtain ⟨g0, hg0⟩ : ∃ g0, w.heap.size = g0 := ⟨_, rfl⟩
  rw [hg0] at HG2 HG3 ⊢
  have HGE := Lib.hid hg0
  clear hg0
  go_loopw [4, 5] (fun x i wr => SoAt z w (g0 + 1) g0 x i wr) (fun _ i _ => 32 - (intOf i).toNat)
  case atStart => exact ⟨0, Nat.zero_le _, rfl, rfl, ⟨zsyn, by simp [zsyn], fun j h => absurd h (by omega), HG2.out⟩, HG3.out, HB2.out⟩
  case round =>
    rename World => W1
    obtain ⟨k, hk, rfl, rfl, ⟨ys, hys, hco, hg⟩, hg0, hb⟩ := hrel
    have HCO := Lib.hid hco
    have HG := Lib.hid hg
    have HG0 := Lib.hid hg0
    have HB := Lib.hid hb
    have HP1 := Lib.hid (HP.out.later hb)
    clear hco hg hg0 hb
    by_cases hlt : k < 32
    · have hd1 : decide ((k : Int) < 32) = true := by simpa using (by omega : (k : Int) < 32)
      have HA : Hid (∀ v : World, Calls Tryd.prog 32 #[.int .u8 ((Gf.al k).toNat : Int), .int .u8 2] v fun e w' => e = .returned (.int .u8 ((Gf.al (k + 1)).toNat : Int)) ∧ w' = v) := Lib.hid fun v => by
        have := rmul_u8 (Gf.al k) (Gf.al 1) v
        rw [Gf.gm_al] at this
        exact this
      have hrl := UInt8.toNat_lt (Gf.al k)
      have HX : Hid (∃ x, Gf.al k = x) := Lib.hid ⟨_, rfl⟩
      generalize hx : Gf.al k = x at *
      have HXE := Lib.hid hx
      clear hx HX
      go_wp2_with fail
      go_loopw [6, 16] (fun v i wr => SiAt z x W1 v i wr) (fun _ i _ => z.length - (intOf i).toNat)
      case atStart => exact ⟨0, Nat.zero_le _, rfl, rfl, rfl⟩
      case round =>
        obtain ⟨j, hj, rfl, rfl, rfl⟩ := hrel
        by_cases hjl : j < z.length
        · obtain ⟨b1, off1, rfl, hb1, hcell⟩ := HP1.out.cells (by simp; omega)
          have hc1 : wr.cell? ⟨b1, off1 + j, none⟩ = some (.int .u8 ((co z j).toNat : Int)) := hcell j _ (bytesV_get z j hjl)
          have HT : Hid (Gf.hv x (z.take (j + 1)) = Gf.gm (Gf.hv x (z.take j)) x ^^^ co z j) := Lib.hid (by rw [take_step z j hjl, Gf.hv_snoc])
          have hx := u8c (Gf.gm (Gf.hv x (z.take j)) x) (co z j)
          have MC : Hid (∀ v : World, Calls Tryd.prog 32 #[.int .u8 ((Gf.hv x (z.take j)).toNat : Int), .int .u8 (x.toNat : Int)] v fun e w' => e = .returned (.int .u8 ((Gf.gm (Gf.hv x (z.take j)) x).toNat : Int)) ∧ w' = v) := Lib.hid fun v => rmul_u8 _ _ v
          clear hcell
          generalize Gf.gm (Gf.hv x (z.take j)) x = t at *
          generalize Gf.hv x (z.take j) = s at *
          generalize co z j = y at *
          generalize t ^^^ y = q at *
          have hyl := UInt8.toNat_lt y
          have htl := UInt8.toNat_lt t
          have hsl := UInt8.toNat_lt s
          go_wp2_with fail
          refine (MC.out _).mono ?_; rintro e w' ⟨rfl, rfl⟩
          go_wp2_with fail
          go_roundw
          case rel => exact ⟨j + 1, by omega, by go_num, by rw [HT.out], rfl⟩
          case measure => simp [intOf]; omega
        · obtain rfl : j = z.length := by omega
          rw [List.take_length]
          obtain ⟨s, hs⟩ : ∃ s, Gf.hv x z = s := ⟨_, rfl⟩
          rw [hs]
          have HS := Lib.hid hs
          have hsl := UInt8.toNat_lt s
          have hce : wr.cell? ⟨g0 + 1, k, none⟩ = some (.int .u8 ((co ys k).toNat : Int)) := by
            unfold World.cell?
            rw [HG.out]
            show (bytesV ys).toArray[k]? = _
            rw [List.getElem?_toArray]
            exact bytesV_get ys k (by omega)
          have hfr : wr.frozen? ⟨g0 + 1, k, none⟩ = false := by
            unfold World.frozen?
            rw [HG.out]
            rfl
          obtain ⟨w4, hw4⟩ : ∃ w4, wr.setCell ⟨g0 + 1, k, none⟩ (.int .u8 (s.toNat : Int)) = w4 := ⟨_, rfl⟩
          have hset := setCell_eq_setRow wr (g0 + 1) k _ _ _ (.int .u8 (s.toNat : Int)) HG.out
          rw [hw4, cells_set] at hset
          have hg4 : w4.heap[g0 + 1]? = some (.cells (bytesV (ys.set k s)).toArray 34 (0, 0)) := by rw [hset]; exact setRow_heap _ _ _ _ _ _ HG.out
          have hg5 : w4.heap[g0]? = some (.cells (bytesV zsyn).toArray 34 (0, 0)) := by rw [hset, setRow_other _ _ _ _ (by omega)]; exact HG0.out
          have hb4 : Below w.heap.size w w4 := by rw [hset]; exact HB.out.trans (below_setRow (by have := HGE.out; omega))
          have HG4 := Lib.hid hg4
          have HG5 := Lib.hid hg5
          have HB4 := Lib.hid hb4
          have HW4 := Lib.hid hw4
          clear hs hw4 hset hg4 hg5 hb4
          have hk0 : (0 : Int) ≤ (k : Int) := by omega
          have hk1 : (k : Int) < 32 := by omega
          go_wp2_with fail
          rw [HW4.out]
          refine (HA.out _).mono ?_; rintro e w' ⟨rfl, rfl⟩
          go_wp2_with fail
          go_roundw
          case rel =>
            refine ⟨k + 1, by omega, by go_num, rfl, ⟨ys.set k s, by simp [hys], fun j hj => ?_, HG4.out⟩, HG5.out, HB4.out⟩
            rw [co_set]
            by_cases e : k = j
            · subst e
              rw [if_pos ⟨rfl, by omega⟩, ← HS.out, HXE.out]
            · rw [if_neg (fun h => e h.1)]
              exact HCO.out j (by omega)
          case measure => simp [intOf]; omega
    · obtain rfl : k = 32 := by omega
      have hye : ys = synL z := list_ext (by simp [hys]) fun j hj => by
        rw [HCO.out j (by omega)]
        exact (co_tab (fun j => Gf.hv (Gf.al j) z) 32 j (by omega)).symm
      subst hye
      clear HCO
      have hsz := syn_size (ys := synL z) hys
      have hst := one_cell (synL z)
      have HSZ := Lib.hid hsz
      have HST := Lib.hid hst
      have HOL : Hid ((bytesV zsyn).toArray.size = (bytesV (synL z)).toArray.size) := Lib.hid (by simp [zsyn])
      obtain ⟨C, hC⟩ : ∃ C, (bytesV (synL z)).toArray = C := ⟨_, rfl⟩
      rw [hC] at HG HSZ HST HOL
      have HCE := Lib.hid hC
      have HGW : Hid ((W1.setRow g0 C).heap[g0]? = some (.cells C 34 (0, 0))) := Lib.hid (setRow_heap _ _ _ _ _ _ HG0.out)
      have HBW : Hid (Below w.heap.size w (W1.setRow g0 C)) := Lib.hid (HB.out.trans (below_setRow (by have := HGE.out; omega)))
      clear hsz hst hC
      go_wp2_with (first | refine wpList_load_row rfl 34 (.tmp 3) rfl (g0 + 1) rfl 34 C (0, 0) _ HG.out syn_under rfl HSZ.out ?_ | refine wpList_store_row rfl 34 (.tmp 2) (.tmp 31) rfl g0 C rfl rfl 34 (bytesV zsyn).toArray HG0.out HSZ.out HOL.out HST.out ?_)
      refine bodyPost_ret (v := .agg C) (results_cell_row rfl _ _ g0 34 C (0, 0) _ rfl HGW.out syn_under rfl HSZ.out) rfl ?_
      exact ⟨by rw [HCE.out], HBW.out⟩
theorem rsyn_any (z : List UInt8) (o : Option Addr) (c : Nat) (w : World) (hP : RowIs w o (bytesV z) c) :
    Calls Tryd.prog 18 #[.slice o z.length c] w fun e w' => e = .returned (.agg (bytesV (synL z)).toArray) ∧ Below w.heap.size w w' :=
  rsyn_of _ rfl zero_syn z o c w hP
end Go.Proofs.YtkkmgjjafbjnjaaDoor
