/- Digests as figures: what a figure is; the code's Unhex, Zero, Less; the document's Hex. -/
import Derived.Test.YtalilmnpobgffaaDoorHx
import Derived.Lib.Bytealg
import Derived.Laws.ResultCell
namespace Go.Proofs.YtalilmnpobgffaaDoor
open Go.RowKit
set_option linter.unusedVariables false
set_option linter.unusedSimpArgs false
theorem getD_at (l : List UInt8) (i : Nat) (h : i < l.length) : l.getD i 0 = l[i] := by simp [h]
/-- a figure -/
def isF (c : UInt8) : Bool := (decide (48 ≤ c.toNat) && decide (c.toNat ≤ 57)) || (decide (97 ≤ c.toNat) && decide (c.toNat ≤ 102))
/-- what a figure counts, or -1 -/
def fx (c : UInt8) : Int := Lib.indexByte fig c
theorem fx_all : ∀ n, n < 256 → (isF (UInt8.ofNat n) = true → 0 ≤ fx (UInt8.ofNat n) ∧ fx (UInt8.ofNat n) ≤ 15 ∧ fg (fx (UInt8.ofNat n)).toNat = UInt8.ofNat n) ∧ (isF (UInt8.ofNat n) = false → fx (UInt8.ofNat n) = -1) := by decide +kernel
theorem fx_in (c : UInt8) (h : isF c = true) : 0 ≤ fx c ∧ fx c ≤ 15 ∧ fg (fx c).toNat = c := by
  have := (fx_all c.toNat (UInt8.toNat_lt c)).1
  rw [UInt8.ofNat_toNat] at this
  exact this h
theorem fx_out (c : UInt8) (h : isF c = false) : fx c = -1 := by
  have := (fx_all c.toNat (UInt8.toNat_lt c)).2
  rw [UInt8.ofNat_toNat] at this
  exact this h
theorem fx_fg : ∀ i, i < 16 → fx (fg i) = i ∧ isF (fg i) = true := by decide +kernel
/-- a text that is a digest -/
def isD (s : List UInt8) : Bool := decide (s.length = 64) && s.all isF
def bt (s : List UInt8) (i : Nat) : UInt8 := UInt8.ofNat ((fx (s.getD (2 * i) 0)).toNat * 16 + (fx (s.getD (2 * i + 1) 0)).toNat)
/-- the digest of a text -/
def uhL (s : List UInt8) : List UInt8 := (List.range 32).map (bt s)
theorem uhL_length (s : List UInt8) : (uhL s).length = 32 := by simp [uhL]
theorem all_get {s : List UInt8} (h : s.all isF = true) (i : Nat) (hi : i < s.length) : isF (s.getD i 0) = true := by
  have := List.all_eq_true.1 h (s.getD i 0) (by simp [hi])
  exact this
theorem hexL_get (d : List UInt8) (q : Nat) (h : q < 64) : (hexL d).getD q 0 = if q % 2 = 0 then fg ((d.getD (q / 2) 0).toNat / 16) else fg ((d.getD (q / 2) 0).toNat % 16) := by simp [hexL, h]
/-- figures and back -/
theorem uh_hex (d : List UInt8) (hd : d.length = 32) : uhL (hexL d) = d := by
  refine List.ext_getElem (by simp [uhL, hd]) fun i h1 h2 => ?_
  simp only [uhL, List.getElem_map, List.getElem_range, bt]
  have hl := UInt8.toNat_lt d[i]
  have hg : d.getD i 0 = d[i] := by simp [h2]
  rw [hexL_get _ _ (by omega), hexL_get _ _ (by omega), if_pos (by omega), if_neg (by omega), show 2 * i / 2 = i by omega, show (2 * i + 1) / 2 = i by omega, hg,
    (fx_fg _ (by omega)).1, (fx_fg _ (by omega)).1]
  apply UInt8.toNat_inj.1
  rw [UInt8.toNat_ofNat']
  simp only [Int.toNat_natCast]
  omega
/-- a digest's text, there and back -/
theorem hex_uh (s : List UInt8) (h : isD s = true) : hexL (uhL s) = s := by
  simp only [isD, Bool.and_eq_true, decide_eq_true_eq] at h
  refine List.ext_getElem (by rw [hexL_length, h.1]) fun q h1 h2 => ?_
  have hq : q < 64 := by rw [hexL_length] at h1; exact h1
  have e2 : s.getD q 0 = s[q] := by simp [h2]
  suffices key : (hexL (uhL s)).getD q 0 = s[q] from (getD_at (hexL (uhL s)) q h1).symm.trans key
  rw [hexL_get _ _ hq]
  have hu : (uhL s).getD (q / 2) 0 = bt s (q / 2) := by simp [uhL, show q / 2 < 32 by omega]
  rw [hu]
  have f0 := fx_in _ (all_get h.2 (2 * (q / 2)) (by omega))
  have f1 := fx_in _ (all_get h.2 (2 * (q / 2) + 1) (by omega))
  have hb : (bt s (q / 2)).toNat = (fx (s.getD (2 * (q / 2)) 0)).toNat * 16 + (fx (s.getD (2 * (q / 2) + 1) 0)).toNat := by
    unfold bt
    rw [UInt8.toNat_ofNat', Nat.mod_eq_of_lt (by omega)]
  rw [hb]
  by_cases e3 : q % 2 = 0
  · rw [if_pos e3, show ((fx (s.getD (2 * (q / 2)) 0)).toNat * 16 + (fx (s.getD (2 * (q / 2) + 1) 0)).toNat) / 16 = (fx (s.getD (2 * (q / 2)) 0)).toNat by omega, f0.2.2, show 2 * (q / 2) = q by omega, e2]
  · rw [if_neg e3, show ((fx (s.getD (2 * (q / 2)) 0)).toNat * 16 + (fx (s.getD (2 * (q / 2) + 1) 0)).toNat) % 16 = (fx (s.getD (2 * (q / 2) + 1) 0)).toNat by omega, f1.2.2, show 2 * (q / 2) + 1 = q by omega, e2]
theorem hex_isD (d : List UInt8) (hd : d.length = 32) : isD (hexL d) = true := by
  simp only [isD, Bool.and_eq_true, decide_eq_true_eq]
  refine ⟨hexL_length d, List.all_eq_true.2 fun x hx => ?_⟩
  simp only [hexL, List.mem_map, List.mem_range] at hx
  obtain ⟨q, hq, rfl⟩ := hx
  have hl := UInt8.toNat_lt (d.getD (q / 2) 0)
  split
  · exact (fx_fg _ (by omega)).2
  · exact (fx_fg _ (by omega)).2

theorem ibl_any (s : ByteArray) (c : UInt8) (w : World) : Calls Tryd.prog 30 #[.string s, .int .u8 (c.toNat : Int)] w fun e w' => e = .returned (.int .i64 (Lib.indexByte s.data.toList c)) ∧ w' = w := by
  have h8 := @run_callFunc_extern Tryd.prog 36 _ Extern.BytealgIndexByte.indexByte Tryd.func36 (by kernel_rfl) (by kernel_rfl) (by kernel_rfl) (by kernel_rfl)
  have h9 : ∀ w, (Extern.BytealgIndexByte.indexByte #[.string s, .int .u8 (c.toNat : Int)]).run Tryd.prog w = .ok (.int .i64 (Lib.indexByte s.data.toList c)) w := fun w => by
    rw [Lib.run_indexByteString]
    congr 3
    simp
  go_enter Tryd.func30, Tryd.ntmps30
  go_wp2_with fail
  go_ret
  exact ⟨rfl, rfl⟩
theorem ib_any (s : ByteArray) (c : UInt8) (w : World) : Calls Tryd.prog 23 #[.string s, .int .u8 (c.toNat : Int)] w fun e w' => e = .returned (.int .i64 (Lib.indexByte s.data.toList c)) ∧ w' = w := by
  go_enter Tryd.func23, Tryd.ntmps23
  go_wp2_with (go_at_call 30; refine (ibl_any s c _).mono ?_; rintro e w' ⟨rfl, rfl⟩)
  go_ret
  exact ⟨rfl, rfl⟩
def uhp (s : List UInt8) (k : Nat) : List UInt8 := (List.range 32).map fun i => if i < k then bt s i else 0
theorem uhp_length (s : List UInt8) (k : Nat) : (uhp s k).length = 32 := by simp [uhp]
theorem uhp_zero (s : List UInt8) : uhp s 0 = List.replicate 32 0 := by
  refine List.ext_getElem (by simp [uhp]) fun j h1 h2 => ?_
  rw [List.getElem_replicate]; simp only [uhp, List.getElem_map, Nat.not_lt_zero, if_false]
theorem uhp_end (s : List UInt8) : uhp s 32 = uhL s := by
  unfold uhp uhL
  refine List.map_congr_left fun q hq => ?_
  rw [if_pos (by simpa using hq)]
theorem uhp_step (s : List UInt8) (m : Nat) : (uhp s m).set m (bt s m) = uhp s (m + 1) := by
  refine List.ext_getElem (by simp [uhp]) fun j h1 h2 => ?_
  simp only [uhp, List.getElem_set, List.getElem_map, List.getElem_range]
  by_cases e : m = j
  · subst e; simp
  · rw [if_neg e]
    by_cases e2 : j < m
    · rw [if_pos e2, if_pos (show j < m + 1 by omega)]
    · rw [if_neg e2, if_neg (show ¬ j < m + 1 by omega)]
theorem dg_built : Tryd.prog.built 28 [] = some (bytesV (List.replicate 32 0)).toArray := by kernel_rfl
theorem res_cell_tmp {P : Program} {fn : Func} {p u : Tmp} {ty : TypeId} (h : fn.results = #[.cell p ty, .tmp u]) (tmps : Array Value) (w : World) (g : Nat) (t : TypeId) (cs : Array Value) (fr : Nat × Nat) (d : TypeDesc)
    (hp : tmps.getD p undef = .pointer (some ⟨g, 0, none⟩)) (hg : w.heap[g]? = some (.cells cs t fr))
    (hu : P.underlying ty = some d) (hd : (match d with | .struct _ | .array _ _ => true | _ => false) = true) (hi : (P.info? ty).map (·.size) = some cs.size) :
    (results fn tmps).run P w = .ok (.tuple #[.agg cs, tmps.getD u undef]) w := by
  rw [results_cell_tmp h, hp]
  simp [asAddr, run_loadVar_row w g t ty cs fr d hg hu hd hi]
theorem exec_blt {P : Program} {o : Oper} {a : Act} {T : TypeId} {Z : Array Value} (ho : o.op = .build T #[]) (hb : P.built T [] = some Z) (v : World) : (execOp a.eval o).run P v = .ok (.value (.agg Z)) v := by
  have e : (((#[] : Array (Nat × Operand)).map fun (i, x) => (i, a.eval x))) = #[] := by simp
  have h := run_build (P := P) v T #[] Z hb
  simp [execOp, ho, h, Result.andThen]
/-- what Unhex answers -/
def UhTo (s : List UInt8) (E : Addr) (w : World) (e : Ending) (w' : World) : Prop :=
  (isD s = true → e = .returned (.tuple #[.agg (bytesV (uhL s)).toArray, .nilIface])) ∧
  (isD s = false → e = .returned (.tuple #[.agg (bytesV (List.replicate 32 0)).toArray, .iface 80 (.pointer (some E))])) ∧ Below w.heap.size w w'
def Uh1 (s : List UInt8) (g : Nat) (w : World) (i : Value) (wr : World) : Prop :=
  ∃ k : Nat, k ≤ 32 ∧ i = .int .i64 k ∧ (∀ j, j < 2 * k → isF (s.getD j 0) = true) ∧ Arr wr (g + 1) 28 (bytesV (uhp s k)) ∧ Arr wr g 28 (bytesV (List.replicate 32 0)) ∧ Below w.heap.size w wr
set_option maxRecDepth 100000 in
set_option maxHeartbeats 1000000 in
theorem unhex_of (Z : Array Value) (hZ : Z = (bytesV (List.replicate 32 0)).toArray) (hzs : ∀ w, Sem.run Tryd.prog (zeroValue 28) w = .ok (.agg Z) w) (hbu : Tryd.prog.built 28 [] = some Z) (s : ByteArray) (E : Addr) (w : World)
    (hE : w.cell? ⟨3, 0, none⟩ = some (.iface 80 (.pointer (some E)))) (hlt : 3 < w.heap.size) (hl : s.size ≤ 1000000) :
    Calls Tryd.prog 15 #[.string s] w (UhTo s.data.toList E w) := by
  obtain ⟨g, hg⟩ : ∃ g, w.heap.size = g := ⟨_, rfl⟩
  obtain ⟨W1, hW1⟩ : ∃ W1, w.alloc (Obj.cells Z 28) = W1 := ⟨_, rfl⟩
  have hb1 : Below w.heap.size w W1 := by rw [← hW1]; exact (Below.refl _ _).alloc (Nat.le_refl _) _
  have hs1 : W1.heap.size = g + 1 := by rw [← hW1, World.size_alloc, hg]
  have hR1 : Arr W1 g 28 (bytesV (List.replicate 32 0)) := by rw [← hW1, hZ, ← hg]; exact Arr.made _ _ _
  have hE1 : W1.cell? ⟨3, 0, none⟩ = some (.iface 80 (.pointer (some E))) := by rw [hb1.cell (p := ⟨3, 0, none⟩) hlt]; exact hE
  have HZ := Lib.hid hZ
  have HBU := Lib.hid hbu
  have HB1 := Lib.hid hb1
  have HR1 := Lib.hid hR1
  have HS1 := Lib.hid hs1
  have HW1 := Lib.hid hW1
  have HG := Lib.hid hg
  have HLT := Lib.hid hlt
  have HE := Lib.hid hE
  clear hZ hbu hb1 hR1 hs1 hg hlt hE
  by_cases hlen : s.size = 64
  · go_enter Tryd.func15, Tryd.ntmps15
    clear hE1
    obtain ⟨W2, hW2⟩ : ∃ W2, W1.alloc (Obj.cells Z 28) = W2 := ⟨_, rfl⟩
    have hb2 : Below W1.heap.size W1 W2 := by rw [← hW2]; exact (Below.refl _ _).alloc (Nat.le_refl _) _
    have HA2 : Hid (Arr W2 (g + 1) 28 (bytesV (uhp s.data.toList 0))) := Lib.hid (by rw [uhp_zero, ← hW2, HZ.out, ← HS1.out]; exact Arr.made _ _ _)
    have HR2 : Hid (Arr W2 g 28 (bytesV (List.replicate 32 0))) := Lib.hid (HR1.out.later hb2 HR1.out.lt)
    have HB2 : Hid (Below w.heap.size w W2) := Lib.hid (Kit.step HB1.out hb2)
    have hs1 := HS1.out
    have hg := HG.out
    have HW2 := Lib.hid hW2
    have hl64 : s.data.toList.length = 64 := hlen
    have HL64 := Lib.hid hl64
    clear hb2 hl64 hW2
    have hn2 : ((s.size : Int) == 64) = true := by rw [beq_iff_eq]; omega
    have hn3 : ((s.size : Int) != 64) = false := by
      have : (s.size : Int) = 64 := by omega
      rw [this]; rfl
    go_wp2_with (first | rw [HW2.out])
    clear HW2
    go_loopw [13] (fun i wr => Uh1 s.data.toList g w i wr) (fun i _ => 32 - (intOf i).toNat)
    case atStart => exact ⟨0, Nat.zero_le _, rfl, fun j hj => absurd hj (by omega), HA2.out, HR2.out, HB2.out⟩
    case round =>
      rename World => V
      obtain ⟨k, hk, rfl, hf, hA, hR, hB⟩ := hrel
      by_cases hlt : k < 32
      · have hd1 : decide ((k : Int) < 32) = true := by simpa using (by omega : (k : Int) < 32)
        obtain ⟨p0, hp0⟩ : ∃ p, 2 * k = p := ⟨_, rfl⟩
        obtain ⟨p1, hp1⟩ : ∃ p, p0 + 1 = p := ⟨_, rfl⟩
        have e0 : IntKind.i64.wrap ((2 : Int) * (k : Int)) = (p0 : Int) := by rw [IntKind.wrap_i64]; omega
        have e1 : IntKind.i64.wrap ((p0 : Int) + 1) = (p1 : Int) := by rw [IntKind.wrap_i64]; omega
        obtain ⟨a, ha⟩ : ∃ a, s.data.toList.getD p0 0 = a := ⟨_, rfl⟩
        obtain ⟨b, hb⟩ : ∃ b, s.data.toList.getD p1 0 = b := ⟨_, rfl⟩
        have hix : ∀ (i : Nat) (c : UInt8), i < 64 → s.data.toList.getD i 0 = c → ∀ W, (Instr.index 9 (.string s) (.int .i64 (i : Int))).run Tryd.prog W = .ok (.int .u8 (c.toNat : Int)) W := fun i c hi hc W => by
          rw [run_index_string W 9 s .i64 (i : Int) Tryd.underlying9, dif_pos (by omega)]
          have : s[(i : Int).toNat]'(by omega) = c := by
            rw [← hc]
            have h1 : i < s.data.toList.length := by rw [HL64.out]; exact hi
            rw [getD_at _ _ h1]
            rfl
          rw [this]
        have hx0 := hix p0 a (by omega) ha
        have hx1 := hix p1 b (by omega) hb
        have IB : Hid (∀ (c : UInt8) v, Calls Tryd.prog 23 #[.string ⟨#[48, 49, 50, 51, 52, 53, 54, 55, 56, 57, 97, 98, 99, 100, 101, 102]⟩, .int .u8 (c.toNat : Int)] v fun e w' => e = .returned (.int .i64 (fx c)) ∧ w' = v) := Lib.hid fun c v => ib_any _ c v
        have IBa := Lib.hid (IB.out a)
        have IBb := Lib.hid (IB.out b)
        have HF := Lib.hid hf
        have HA := Lib.hid hA
        have HR := Lib.hid hR
        have HB := Lib.hid hB
        have HPA := Lib.hid ha
        have HPB := Lib.hid hb
        have HP0 := Lib.hid hp0
        have HP1 := Lib.hid hp1
        obtain ⟨u, hu⟩ : ∃ u, fx a = u := ⟨_, rfl⟩
        obtain ⟨v, hv⟩ : ∃ v, fx b = v := ⟨_, rfl⟩
        rw [hu] at IBa
        rw [hv] at IBb
        have HU := Lib.hid hu
        have HVV := Lib.hid hv
        clear hf hA hR hB ha hb hix hp0 hp1 hu hv
        go_wp2_with fail
        go_quiet ((first | with_reducible exact Calls.quiet_of_same (IBa.out _) | with_reducible exact Calls.quiet_of_same (IBb.out _)))
        obtain ⟨V2, hV2⟩ : ∃ V2, V.drewN nq = V2 := ⟨_, rfl⟩
        have HA3 : Hid (Arr V2 (g + 1) 28 (bytesV (uhp s.data.toList k))) := Lib.hid (by rw [← hV2]; exact HA.out)
        have HR3 : Hid (Arr V2 g 28 (bytesV (List.replicate 32 0))) := Lib.hid (by rw [← hV2]; exact HR.out)
        have HB3 : Hid (Below w.heap.size w V2) := Lib.hid (by rw [← hV2]; exact Kit.dn HB.out nq)
        have HE3 : Hid (V2.cell? ⟨3, 0, none⟩ = some (.iface 80 (.pointer (some E)))) := Lib.hid (by rw [HB3.out.cell (p := ⟨3, 0, none⟩) HLT.out]; exact HE.out)
        rw [hV2]
        clear hV2 HA HR HB
        have HSB : Hid (V2.heap[g]? = some (.cells Z 28 (0, 0))) := Lib.hid (by rw [HZ.out]; exact HR3.out)
        have HF4 : Hid ((Tryd.prog.info? 28).map (·.size) = some Z.size) := Lib.hid (by rw [dg_info, HZ.out]; rfl)
        have HF6 : Hid (Z.all (·.oneCell') = true) := Lib.hid (by rw [HZ.out]; exact all_oneCell_toArray (bytesV_one _))
        cases hfa : isF a with
        | false =>
          obtain rfl : u = -1 := by rw [← HU.out]; exact fx_out a hfa
          have hd : isD s.data.toList = false := by
            rw [Bool.eq_false_iff]
            intro h
            simp only [isD, Bool.and_eq_true, decide_eq_true_eq] at h
            have := all_get h.2 p0 (by have := HP0.out; have := HP1.out; omega)
            rw [HPA.out, hfa] at this
            cases this
          go_upto_region 9 with fail
          have hc7 : (V2).drew.cell? ⟨3, 0, none⟩ = some (.iface 80 (.pointer (some E))) := HE3.out
          have hc8 : ((V2).drew.setRow g Z).cell? ⟨3, 0, none⟩ = some (.iface 80 (.pointer (some E))) := by
            unfold World.cell?
            rw [setRow_other _ _ _ _ (show 3 ≠ g by have := HLT.out; have := HG.out; omega)]
            exact HE3.out
          refine wp_region_any (by kernel_rfl) ?_
          change wpAny _ _ _ _ _ _ _ (World.drew _)
          refine wpAny_take (i := 0) (v := .agg Z) rfl (by kernel_rfl) (by kernel_rfl) (by kernel_rfl) (fun _ _ _ h => h) (Or.inl ⟨by rfl, fun v => exec_blt rfl HBU.out v⟩) ?_
          refine wpAny_ready (rs := [1, 2]) (by kernel_rfl) (by simp) ?_
          refine AllReady.cons rfl (fun K hK => ?_) (AllReady.cons rfl (fun K hK => ?_) AllReady.nil)
          · go_simp
            refine hK _ _ ?_
            clear hK K
            refine wpAny_ready (rs := [2]) (by kernel_rfl) (by simp) ?_
            refine AllReady.cons rfl (fun K hK => ?_) AllReady.nil
            rw [if_pos (by rfl)]
            refine wp_store_row 28 (.tmp 2) (.tmp 33) rfl g Z rfl rfl 28 Z HSB.out HF4.out rfl HF6.out (hK _ _ ?_)
            clear hK K
            refine wpAny_ready (rs := [3]) (by kernel_rfl) (by simp) ?_
            refine AllReady.cons rfl (fun K hK => ?_) AllReady.nil
            go_simp
            refine hK _ _ ?_
            clear hK K
            refine wpAny_done (by kernel_rfl) ?_ _
            go_wp2_with fail
            have hg2 : ((V2).drew.setRow g Z).heap[g]? = some (.cells Z 28 (0, 0)) := setRow_heap _ _ _ _ _ _ HSB.out
            refine bodyPost_ret (res_cell_tmp rfl _ _ g 28 Z (0, 0) _ rfl hg2 dg_under rfl HF4.out) rfl ?_
            have hx : Below w.heap.size w ((V2).drew.setRow g Z) := (Kit.dn HB3.out 1).trans (below_row (Nat.le_of_eq HG.out))
            exact ⟨fun h => absurd h (by rw [hd]; decide), fun _ => by rw [← HZ.out]; rfl, hx⟩
          · rw [if_pos (by rfl)]
            refine wp_store_row 28 (.tmp 2) (.tmp 33) rfl g Z rfl rfl 28 Z HSB.out HF4.out rfl HF6.out (hK _ _ ?_)
            clear hK K
            refine wpAny_ready (rs := [1]) (by kernel_rfl) (by simp) ?_
            refine AllReady.cons rfl (fun K hK => ?_) AllReady.nil
            go_simp
            refine hK _ _ ?_
            clear hK K
            refine wpAny_ready (rs := [3]) (by kernel_rfl) (by simp) ?_
            refine AllReady.cons rfl (fun K hK => ?_) AllReady.nil
            go_simp
            refine hK _ _ ?_
            clear hK K
            refine wpAny_done (by kernel_rfl) ?_ _
            go_wp2_with fail
            have hg2 : ((V2).drew.setRow g Z).heap[g]? = some (.cells Z 28 (0, 0)) := setRow_heap _ _ _ _ _ _ HSB.out
            refine bodyPost_ret (res_cell_tmp rfl _ _ g 28 Z (0, 0) _ rfl hg2 dg_under rfl HF4.out) rfl ?_
            have hx : Below w.heap.size w ((V2).drew.setRow g Z) := (Kit.dn HB3.out 1).trans (below_row (Nat.le_of_eq HG.out))
            exact ⟨fun h => absurd h (by rw [hd]; decide), fun _ => by rw [← HZ.out]; rfl, hx⟩
        | true =>
          have h1 := fx_in a hfa
          rw [HU.out] at h1
          have hu0 : ¬ u < 0 := by omega
          cases hfb : isF b with
          | false =>
            obtain rfl : v = -1 := by rw [← HVV.out]; exact fx_out b hfb
            have hd : isD s.data.toList = false := by
              rw [Bool.eq_false_iff]
              intro h
              simp only [isD, Bool.and_eq_true, decide_eq_true_eq] at h
              have := all_get h.2 p1 (by have := HP0.out; have := HP1.out; omega)
              rw [HPB.out, hfb] at this
              cases this
            go_upto_region 9 with fail
            have hc7 : (V2).drew.cell? ⟨3, 0, none⟩ = some (.iface 80 (.pointer (some E))) := HE3.out
            have hc8 : ((V2).drew.setRow g Z).cell? ⟨3, 0, none⟩ = some (.iface 80 (.pointer (some E))) := by
              unfold World.cell?
              rw [setRow_other _ _ _ _ (show 3 ≠ g by have := HLT.out; have := HG.out; omega)]
              exact HE3.out
            refine wp_region_any (by kernel_rfl) ?_
            change wpAny _ _ _ _ _ _ _ (World.drew _)
            refine wpAny_take (i := 0) (v := .agg Z) rfl (by kernel_rfl) (by kernel_rfl) (by kernel_rfl) (fun _ _ _ h => h) (Or.inl ⟨by rfl, fun v => exec_blt rfl HBU.out v⟩) ?_
            refine wpAny_ready (rs := [1, 2]) (by kernel_rfl) (by simp) ?_
            refine AllReady.cons rfl (fun K hK => ?_) (AllReady.cons rfl (fun K hK => ?_) AllReady.nil)
            · go_simp
              refine hK _ _ ?_
              clear hK K
              refine wpAny_ready (rs := [2]) (by kernel_rfl) (by simp) ?_
              refine AllReady.cons rfl (fun K hK => ?_) AllReady.nil
              rw [if_pos (by rfl)]
              refine wp_store_row 28 (.tmp 2) (.tmp 33) rfl g Z rfl rfl 28 Z HSB.out HF4.out rfl HF6.out (hK _ _ ?_)
              clear hK K
              refine wpAny_ready (rs := [3]) (by kernel_rfl) (by simp) ?_
              refine AllReady.cons rfl (fun K hK => ?_) AllReady.nil
              go_simp
              refine hK _ _ ?_
              clear hK K
              refine wpAny_done (by kernel_rfl) ?_ _
              go_wp2_with fail
              have hg2 : ((V2).drew.setRow g Z).heap[g]? = some (.cells Z 28 (0, 0)) := setRow_heap _ _ _ _ _ _ HSB.out
              refine bodyPost_ret (res_cell_tmp rfl _ _ g 28 Z (0, 0) _ rfl hg2 dg_under rfl HF4.out) rfl ?_
              have hx : Below w.heap.size w ((V2).drew.setRow g Z) := (Kit.dn HB3.out 1).trans (below_row (Nat.le_of_eq HG.out))
              exact ⟨fun h => absurd h (by rw [hd]; decide), fun _ => by rw [← HZ.out]; rfl, hx⟩
            · rw [if_pos (by rfl)]
              refine wp_store_row 28 (.tmp 2) (.tmp 33) rfl g Z rfl rfl 28 Z HSB.out HF4.out rfl HF6.out (hK _ _ ?_)
              clear hK K
              refine wpAny_ready (rs := [1]) (by kernel_rfl) (by simp) ?_
              refine AllReady.cons rfl (fun K hK => ?_) AllReady.nil
              go_simp
              refine hK _ _ ?_
              clear hK K
              refine wpAny_ready (rs := [3]) (by kernel_rfl) (by simp) ?_
              refine AllReady.cons rfl (fun K hK => ?_) AllReady.nil
              go_simp
              refine hK _ _ ?_
              clear hK K
              refine wpAny_done (by kernel_rfl) ?_ _
              go_wp2_with fail
              have hg2 : ((V2).drew.setRow g Z).heap[g]? = some (.cells Z 28 (0, 0)) := setRow_heap _ _ _ _ _ _ HSB.out
              refine bodyPost_ret (res_cell_tmp rfl _ _ g 28 Z (0, 0) _ rfl hg2 dg_under rfl HF4.out) rfl ?_
              have hx : Below w.heap.size w ((V2).drew.setRow g Z) := (Kit.dn HB3.out 1).trans (below_row (Nat.le_of_eq HG.out))
              exact ⟨fun h => absurd h (by rw [hd]; decide), fun _ => by rw [← HZ.out]; rfl, hx⟩
          | true =>
            have h2 := fx_in b hfb
            rw [HVV.out] at h2
            have hv0 : ¬ v < 0 := by omega
            obtain ⟨un, rfl⟩ : ∃ n : Nat, u = (n : Int) := ⟨u.toNat, by omega⟩
            obtain ⟨vn, rfl⟩ : ∃ n : Nat, v = (n : Int) := ⟨v.toNat, by omega⟩
            have hun : un ≤ 15 := by omega
            have hvn : vn ≤ 15 := by omega
            have hbt : bt s.data.toList k = UInt8.ofNat (un * 16 + vn) := by
              unfold bt
              rw [HP0.out, HP1.out, HPA.out, HPB.out, HU.out, HVV.out]
              rfl
            have hor : bits .or .i64 ((un : Int) * 16) (vn : Int) = ((un * 16 + vn : Nat) : Int) := by
              rw [show ((un : Int) * 16) = ((un * 16 : Nat) : Int) by omega, (bits_nat .i64 63 (by decide) (fun n h0 h1 => by rw [IntKind.wrap_i64]; omega) _ _ (by omega) (by omega)).2]
              congr 1
              rw [show un * 16 = un <<< 4 by rw [Nat.shiftLeft_eq], Nat.shiftLeft_add_eq_or_of_lt (by omega)]
            obtain ⟨y, hy⟩ : ∃ y, (uhp s.data.toList k).getD k 0 = y := ⟨_, rfl⟩
            have hc : V2.cell? ⟨g + 1, k, none⟩ = some (.int .u8 (y.toNat : Int)) := by rw [HA3.out.cell, ← hy]; exact bytesV_get _ _ (by rw [uhp_length]; exact hlt)
            have hfz := HA3.out.frozen k
            have HST := Lib.hid (uhp_step s.data.toList k)
            rw [hbt] at HST
            have l1 : (k : Int) < 32 := by omega
            clear hy hbt
            go_wp2_with fail
            refine ⟨⟨k + 1, by omega, by go_num, fun j hj => ?_, ?_, ?_, ?_⟩, by simp [intOf]; omega⟩
            · have h0 := HP0.out
              have h01 := HP1.out
              by_cases ej : j < 2 * k
              · exact HF.out j ej
              · by_cases ej2 : j = p0
                · rw [ej2, HPA.out]; exact hfa
                · rw [show j = p1 by omega, HPB.out]; exact hfb
            · rw [show ((un : Int) * 16 + (vn : Int)) = ((UInt8.ofNat (un * 16 + vn)).toNat : Int) from by rw [UInt8.toNat_ofNat']; omega, ← HST.out, ← bytesV_set']
              exact HA3.out.set k _
            · exact HR3.out.ne HA3.out (by omega) _ _
            · exact HA3.out.below HB3.out (by have := HG.out; omega) _ _
      · obtain rfl : k = 32 := by omega
        rw [show (((32 : Nat) : Int)) = 32 from rfl]
        rw [uhp_end] at hA
        have hd : isD s.data.toList = true := by
          simp only [isD, Bool.and_eq_true, decide_eq_true_eq]
          refine ⟨HL64.out, List.all_eq_true.2 fun x hx => ?_⟩
          obtain ⟨i, hi, rfl⟩ := List.mem_iff_getElem.1 hx
          have := hf i (by rw [HL64.out] at hi; omega)
          rw [getD_at _ _ hi] at this
          exact this
        obtain ⟨F, hF⟩ : ∃ F, (bytesV (uhL s.data.toList)).toArray = F := ⟨_, rfl⟩
        have HRS : Hid ((Tryd.prog.info? 28).map (·.size) = some F.size) := Lib.hid (by rw [dg_info, ← hF]; simp [uhL_length])
        have HRO : Hid (F.all (·.oneCell') = true) := Lib.hid (by rw [← hF]; exact all_oneCell_toArray (bytesV_one _))
        have HRZ : Hid ((bytesV (List.replicate 32 0)).toArray.size = F.size) := Lib.hid (by rw [← hF]; simp [uhL_length])
        have HL1 : Hid (V.heap[g + 1]? = some (.cells F 28 (0, 0))) := Lib.hid (by rw [← hF]; exact hA)
        have HL2 : Hid (V.heap[g]? = some (.cells (bytesV (List.replicate 32 0)).toArray 28 (0, 0))) := Lib.hid hR
        have HGW : Hid ((V.setRow g F).heap[g]? = some (.cells F 28 (0, 0))) := Lib.hid (setRow_heap _ _ _ _ _ _ hR)
        have HBW : Hid (Below w.heap.size w (V.setRow g F)) := Lib.hid (hB.trans (below_row (Nat.le_of_eq HG.out)))
        have HFE := Lib.hid hF
        have HDD := Lib.hid hd
        clear hF hA hR hB hf hzs hd
        go_wp2_with (first | refine wpList_load_row rfl 28 (.tmp 4) rfl (g + 1) rfl 28 F (0, 0) _ HL1.out dg_under rfl HRS.out ?_ | refine wpList_store_rowTo rfl 28 (.tmp 2) (.tmp 43) rfl rfl g F rfl rfl 28 (bytesV (List.replicate 32 0)).toArray HL2.out HRS.out HRZ.out HRO.out ?_)
        refine bodyPost_ret (res_cell_tmp rfl _ _ g 28 F (0, 0) _ rfl HGW.out dg_under rfl HRS.out) rfl ?_
        exact ⟨fun _ => by rw [HFE.out]; rfl, fun h => absurd h (by rw [HDD.out]; decide), HBW.out⟩
  · have hd : isD s.data.toList = false := by
      unfold isD
      rw [decide_eq_false (show ¬ s.data.toList.length = 64 from hlen)]
      rfl
    have hn1 : ¬ (s.size : Int) = 64 := by omega
    have hn2 : ((s.size : Int) == 64) = false := beq_false_of_ne hn1
    have hn3 : ((s.size : Int) != 64) = true := by rw [bne_iff_ne]; exact hn1
    go_enter Tryd.func15, Tryd.ntmps15
    have HSB : Hid (W1.heap[g]? = some (.cells Z 28 (0, 0))) := Lib.hid (by rw [HZ.out]; exact HR1.out)
    have HF4 : Hid ((Tryd.prog.info? 28).map (·.size) = some Z.size) := Lib.hid (by rw [dg_info, HZ.out]; rfl)
    have HF6 : Hid (Z.all (·.oneCell') = true) := Lib.hid (by rw [HZ.out]; exact all_oneCell_toArray (bytesV_one _))
    go_upto_region 2 with fail
    rw [HG.out]
    have hc7 : (W1).drew.cell? ⟨3, 0, none⟩ = some (.iface 80 (.pointer (some E))) := hE1
    have hc8 : ((W1).drew.setRow g Z).cell? ⟨3, 0, none⟩ = some (.iface 80 (.pointer (some E))) := by
      unfold World.cell?
      rw [setRow_other _ _ _ _ (show 3 ≠ g by have := HLT.out; have := HG.out; omega)]
      exact hE1
    refine wp_region_any (by kernel_rfl) ?_
    change wpAny _ _ _ _ _ _ _ (World.drew _)
    refine wpAny_take (i := 0) (v := .agg Z) rfl (by kernel_rfl) (by kernel_rfl) (by kernel_rfl) (fun _ _ _ h => h) (Or.inl ⟨by rfl, fun v => exec_blt rfl HBU.out v⟩) ?_
    refine wpAny_ready (rs := [1, 2]) (by kernel_rfl) (by simp) ?_
    refine AllReady.cons rfl (fun K hK => ?_) (AllReady.cons rfl (fun K hK => ?_) AllReady.nil)
    · go_simp
      refine hK _ _ ?_
      clear hK K
      refine wpAny_ready (rs := [2]) (by kernel_rfl) (by simp) ?_
      refine AllReady.cons rfl (fun K hK => ?_) AllReady.nil
      rw [if_pos (by rfl)]
      refine wp_store_row 28 (.tmp 2) (.tmp 11) rfl g Z rfl rfl 28 Z HSB.out HF4.out rfl HF6.out (hK _ _ ?_)
      clear hK K
      refine wpAny_ready (rs := [3]) (by kernel_rfl) (by simp) ?_
      refine AllReady.cons rfl (fun K hK => ?_) AllReady.nil
      go_simp
      refine hK _ _ ?_
      clear hK K
      refine wpAny_done (by kernel_rfl) ?_ _
      go_wp2_with fail
      have hg2 : ((W1).drew.setRow g Z).heap[g]? = some (.cells Z 28 (0, 0)) := setRow_heap _ _ _ _ _ _ HSB.out
      refine bodyPost_ret (res_cell_tmp rfl _ _ g 28 Z (0, 0) _ rfl hg2 dg_under rfl HF4.out) rfl ?_
      have hx : Below w.heap.size w ((W1).drew.setRow g Z) := (Kit.dn HB1.out 1).trans (below_row (Nat.le_of_eq HG.out))
      exact ⟨fun h => absurd h (by rw [hd]; decide), fun _ => by rw [← HZ.out]; rfl, hx⟩
    · rw [if_pos (by rfl)]
      refine wp_store_row 28 (.tmp 2) (.tmp 11) rfl g Z rfl rfl 28 Z HSB.out HF4.out rfl HF6.out (hK _ _ ?_)
      clear hK K
      refine wpAny_ready (rs := [1]) (by kernel_rfl) (by simp) ?_
      refine AllReady.cons rfl (fun K hK => ?_) AllReady.nil
      go_simp
      refine hK _ _ ?_
      clear hK K
      refine wpAny_ready (rs := [3]) (by kernel_rfl) (by simp) ?_
      refine AllReady.cons rfl (fun K hK => ?_) AllReady.nil
      go_simp
      refine hK _ _ ?_
      clear hK K
      refine wpAny_done (by kernel_rfl) ?_ _
      go_wp2_with fail
      have hg2 : ((W1).drew.setRow g Z).heap[g]? = some (.cells Z 28 (0, 0)) := setRow_heap _ _ _ _ _ _ HSB.out
      refine bodyPost_ret (res_cell_tmp rfl _ _ g 28 Z (0, 0) _ rfl hg2 dg_under rfl HF4.out) rfl ?_
      have hx : Below w.heap.size w ((W1).drew.setRow g Z) := (Kit.dn HB1.out 1).trans (below_row (Nat.le_of_eq HG.out))
      exact ⟨fun h => absurd h (by rw [hd]; decide), fun _ => by rw [← HZ.out]; rfl, hx⟩
theorem unhex_any (s : ByteArray) (E : Addr) (w : World) (hE : w.cell? ⟨3, 0, none⟩ = some (.iface 80 (.pointer (some E)))) (hlt : 3 < w.heap.size) (hl : s.size ≤ 1000000) :
    Calls Tryd.prog 15 #[.string s] w (UhTo s.data.toList E w) := unhex_of _ rfl dg_zero dg_built s E w hE hlt hl
end Go.Proofs.YtalilmnpobgffaaDoor
