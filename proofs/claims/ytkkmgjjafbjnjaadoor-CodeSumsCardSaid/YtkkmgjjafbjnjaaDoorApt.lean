/- The walk of CodeApart. -/
import Derived.Test.YtkkmgjjafbjnjaaDoorEn
import Derived.Test.YtkkmgjjafbjnjaaDoorAl3
import Derived.Test.YtkkmgjjafbjnjaaDoorDf
namespace Go.Proofs.YtkkmgjjafbjnjaaDoor
open Go.RowKit
set_option linter.unusedVariables false
set_option linter.unusedSimpArgs false
theorem str_beq (a b : List UInt8) : ((⟨a.toArray⟩ : ByteArray).toList == (⟨b.toArray⟩ : ByteArray).toList) = (a == b) := by
  rw [ByteArray.toList_eq, ByteArray.toList_eq]
theorem differ_ne (m n c c2 : Nat) (o o2 : Option Addr) (w : World) (h : m ≠ n) (hm : m ≤ 9223372036854775807) (hn : n ≤ 9223372036854775807) :
    Calls Tryd.prog 22 #[.slice o m c, .slice o2 n c2] w fun e w' => e = .returned (.slice none 0 0) ∧ w' = w := by
  have hb : ((m : Int) == (n : Int)) = false := beq_false_of_ne (by omega)
  have hd : decide ((m : Int) = (n : Int)) = false := decide_eq_false (by omega)
  go_enter Tryd.func22, Tryd.ntmps22
  go_wp2_with fail
  go_ret
  exact ⟨rfl, rfl⟩
/-- what Encode answers, of whatever -/
theorem encode_all (d : List UInt8) (o : Option Addr) (c : Nat) (w : World) (pe : Addr) (hE : w.cell? ⟨0, 0, none⟩ = some (.iface 92 (.pointer (some pe)))) (hP : RowIs w o (bytesV d) c) :
    Calls Tryd.prog 10 #[.slice o d.length c] w fun e w' => ∃ x e1, e = .returned (.tuple #[x, e1]) ∧ Below w.heap.size w w' ∧ ((1 ≤ d.length ∧ d.length ≤ 223 ∧ e1 = .nilIface ∧ ∃ r, r.length = 32 ∧ IsCode (d ++ r) ∧ RowV (d ++ r) x w') ∨ ((d.length < 1 ∨ 223 < d.length) ∧ x = .slice none 0 0 ∧ e1 = .iface 92 (.pointer (some pe)))) := by
  by_cases h : 1 ≤ d.length ∧ d.length ≤ 223
  · refine (encode_any d o c w hP h.1 h.2).mono ?_
    rintro e w' ⟨r, x, hr, hc, rfl, hx, hb⟩
    exact ⟨x, _, rfl, hb, .inl ⟨h.1, h.2, rfl, r, hr, hc, hx⟩⟩
  · have h1 := hP.le
    have h2 := hP.cap
    simp only [bytesV_length] at h1
    unfold maxLen at h2
    refine (encode_size d.length c o w pe hE (by omega) (by omega)).mono ?_
    rintro e w' ⟨rfl, hb⟩
    exact ⟨_, _, rfl, hb, .inr ⟨by omega, rfl, rfl⟩⟩
theorem apt_longa (m n c c2 : Nat) (o o2 : Option Addr) (w : World) (h : 300 < m) (hm : m ≤ 9223372036854775807) (hn : n ≤ 9223372036854775807) :
    Calls Tryd.prog 5 #[.slice o m c, .slice o2 n c2] w fun e w' => e = .returned (.bool true) ∧ Below w.heap.size w w' := by
  have hd : decide ((300 : Int) < (m : Int)) = true := decide_eq_true (by omega)
  go_enter Tryd.func5, Tryd.ntmps5
  go_wp2_with fail
  refine (alive3_any _).mono ?_; rintro e w1 ⟨rfl, hb⟩
  have HB1 := Lib.hid hb
  clear hb
  go_wp2_with fail
  go_ret
  exact ⟨rfl, HB1.out⟩
theorem apt_longb (m n c c2 : Nat) (o o2 : Option Addr) (w : World) (h0 : m ≤ 300) (h : 300 < n) (hn : n ≤ 9223372036854775807) :
    Calls Tryd.prog 5 #[.slice o m c, .slice o2 n c2] w fun e w' => e = .returned (.bool true) ∧ Below w.heap.size w w' := by
  have hd : decide ((300 : Int) < (m : Int)) = false := decide_eq_false (by omega)
  have hd2 : decide ((300 : Int) < (n : Int)) = true := decide_eq_true (by omega)
  go_enter Tryd.func5, Tryd.ntmps5
  go_wp2_with fail
  refine (alive3_any _).mono ?_; rintro e w1 ⟨rfl, hb⟩
  have HB1 := Lib.hid hb
  clear hb
  go_wp2_with fail
  go_ret
  exact ⟨rfl, HB1.out⟩
def ApAt (n : Nat) (w : World) (j i : Value) (wr : World) : Prop := ∃ k : Nat, k ≤ n ∧ i = .int .i64 k ∧ j = .int .i64 0 ∧ Below w.heap.size w wr
set_option maxRecDepth 100000 in
set_option maxHeartbeats 4000000 in
theorem apt_ne (a b : List UInt8) (o o2 : Option Addr) (c c2 : Nat) (w : World) (pe : Addr) (hE : w.cell? ⟨0, 0, none⟩ = some (.iface 92 (.pointer (some pe)))) (hA : RowIs w o (bytesV a) c) (hB : RowIs w o2 (bytesV b) c2) (h : a.length ≠ b.length) (hla : a.length ≤ 300) (hlb : b.length ≤ 300) :
    Calls Tryd.prog 5 #[.slice o a.length c, .slice o2 b.length c2] w fun e w' => e = .returned (.bool true) ∧ Below w.heap.size w w' := by
  have HA := Lib.hid hA
  have HBB := Lib.hid hB
  have HE := Lib.hid hE
  have hd : decide ((300 : Int) < (a.length : Int)) = false := decide_eq_false (by omega)
  have hd2 : decide ((300 : Int) < (b.length : Int)) = false := decide_eq_false (by omega)
  have hnb : ((a.length : Int) == (b.length : Int)) = false := beq_false_of_ne (by omega)
  have hnd : decide ((a.length : Int) = (b.length : Int)) = false := decide_eq_false (by omega)
  have HNE := Lib.hid h
  have hca := hA.cap
  have hcb := hB.cap
  unfold maxLen at hca hcb
  clear hA hB hE h
  go_enter Tryd.func5, Tryd.ntmps5
  go_wp2_with fail
  refine (alive3_any _).mono ?_; rintro e w1 ⟨rfl, hb⟩
  have HB1 := Lib.hid hb
  clear hb
  go_wp2_with fail
  refine (differ_ne a.length b.length c c2 o o2 w1 HNE.out (by omega) (by omega)).mono ?_; rintro e w2 ⟨rfl, rfl⟩
  go_wp2_with fail
  go_loopw [6, 7, 27] (fun j _ i wr => ApAt a.length w j i wr) (fun _ _ i _ => a.length - (intOf i).toNat)
  case atStart => exact ⟨0, Nat.zero_le _, rfl, rfl, HB1.out⟩
  case round =>
    obtain ⟨k, hk, rfl, rfl, hb⟩ := hrel
    have HB := Lib.hid hb
    clear hb
    by_cases hlt : k < a.length
    · go_wp2_with fail
      go_quiet (fail)
      go_wp2_with fail
      go_roundw
      case rel => exact ⟨k + 1, by omega, by go_num, rfl, HB.out.trans ⟨rfl, rfl, rfl, Nat.le_refl _, fun _ _ => rfl⟩⟩
      case measure => simp [intOf]; omega
    · obtain rfl : k = a.length := by omega
      go_wp2_with fail
      refine (encode_all a o c wr pe (glob_later HE.out HB.out) (HA.out.later HB.out)).mono ?_; rintro e w3 ⟨x, e1, rfl, hb, h1⟩
      have HB3 := Lib.hid (Kit.step HB.out hb)
      clear hb
      have h1 : e1 = .nilIface ∨ e1 = .iface 92 (.pointer (some pe)) := h1.imp (fun h => h.2.2.1) (fun h => h.2.2)
      go_wp2_with fail
      refine (encode_all b o2 c2 w3 pe (glob_later HE.out HB3.out) (HBB.out.later HB3.out)).mono ?_; rintro e w4 ⟨y, e2, rfl, hb, h2⟩
      have HB4 := Lib.hid (Kit.step HB3.out hb)
      clear hb
      have h2 : e2 = .nilIface ∨ e2 = .iface 92 (.pointer (some pe)) := h2.imp (fun h => h.2.2.1) (fun h => h.2.2)
      rcases h1 with rfl | rfl
      · rcases h2 with rfl | rfl
        · go_wp2_with fail
          go_ret
          exact ⟨rfl, HB4.out⟩
        · go_wp2_with fail
          go_ret
          exact ⟨rfl, HB4.out⟩
      · go_wp2_with fail
        go_ret
        exact ⟨rfl, HB4.out⟩
def AqAt (a b : List UInt8) (w : World) (j i : Value) (wr : World) : Prop := ∃ k : Nat, k ≤ a.length ∧ i = .int .i64 k ∧ j = .int .i64 ((dfL a b k).length : Int) ∧ Below w.heap.size w wr
set_option maxRecDepth 100000 in
set_option maxHeartbeats 8000000 in
theorem apt_eq (a b : List UInt8) (o o2 : Option Addr) (c c2 : Nat) (w : World) (pe : Addr) (hE : w.cell? ⟨0, 0, none⟩ = some (.iface 92 (.pointer (some pe)))) (hA : RowIs w o (bytesV a) c) (hB : RowIs w o2 (bytesV b) c2) (h : a.length = b.length) (hla : a.length ≤ 300) :
    Calls Tryd.prog 5 #[.slice o a.length c, .slice o2 b.length c2] w fun e w' => e = .returned (.bool true) ∧ Below w.heap.size w w' := by
  have HA := Lib.hid hA
  have HBB := Lib.hid hB
  have HE := Lib.hid hE
  have HDF : Hid (∀ v, RowIs v o (bytesV a) c → RowIs v o2 (bytesV b) c2 → Calls Tryd.prog 22 #[.slice o a.length c, .slice o2 a.length c2] v fun e w' => ∃ x, e = .returned x ∧ IntsV (dfL a b a.length) x w' ∧ Below v.heap.size v w') := Lib.hid fun v h1 h2 => by
    have := differ_any a b o o2 c c2 v h1 h2 h (by omega)
    rwa [← h] at this
  have HEB : Hid (∀ v, v.cell? ⟨0, 0, none⟩ = some (.iface 92 (.pointer (some pe))) → RowIs v o2 (bytesV b) c2 → Calls Tryd.prog 10 #[.slice o2 a.length c2] v fun e w' => ∃ x e1, e = .returned (.tuple #[x, e1]) ∧ Below v.heap.size v w' ∧ ((1 ≤ a.length ∧ a.length ≤ 223 ∧ e1 = .nilIface ∧ ∃ r, r.length = 32 ∧ IsCode (b ++ r) ∧ RowV (b ++ r) x w') ∨ ((a.length < 1 ∨ 223 < a.length) ∧ x = .slice none 0 0 ∧ e1 = .iface 92 (.pointer (some pe))))) := Lib.hid fun v h1 h2 => by
    have := encode_all b o2 c2 v pe h1 h2
    rwa [← h] at this
  have HL := Lib.hid h
  rw [← h]
  have hd : decide ((300 : Int) < (a.length : Int)) = false := decide_eq_false (by omega)
  have hca := hA.cap
  have hcb := hB.cap
  have hle := hA.le
  simp only [bytesV_length] at hle
  unfold maxLen at hca hcb
  clear hA hB hE h
  go_enter Tryd.func5, Tryd.ntmps5
  go_wp2_with fail
  refine (alive3_any _).mono ?_; rintro e w1 ⟨rfl, hb⟩
  have HB1 := Lib.hid hb
  clear hb
  go_wp2_with fail
  refine (HDF.out w1 (HA.out.later HB1.out) (HBB.out.later HB1.out)).mono ?_; rintro e w2 ⟨l, rfl, hl, hb⟩
  have HB2 := Lib.hid (Kit.step HB1.out hb)
  have HLL := Lib.hid hl
  obtain ⟨ol, cl, rfl, hlr⟩ := hl
  have hlc := hlr.cap
  have hll := hlr.le
  have hlm := dfL_length a b a.length
  simp only [intsV_length] at hll
  unfold maxLen at hlc
  have HLR := Lib.hid hlr
  have HAT : Hid (∀ k, k < a.length → co a k ≠ co b k → (dfL a b k).length < (dfL a b a.length).length ∧ (dfL a b a.length)[(dfL a b k).length]? = some (k : Int)) := Lib.hid fun k hk hd => dfL_at a b k a.length hk hd
  have HEN : Hid (∀ k, k = a.length → (dfL a b k).length = (dfL a b a.length).length) := Lib.hid fun k hk => by rw [hk]
  generalize dfL a b a.length = L at HLR HAT HEN HLL hlm hll ⊢
  clear hb hlr
  go_wp2_with fail
  go_loopw [6, 7, 27] (fun j _ i wr => AqAt a b w2 j i wr) (fun _ _ i _ => a.length - (intOf i).toNat)
  case atStart => exact ⟨0, Nat.zero_le _, rfl, rfl, Below.refl _ _⟩
  case round =>
    obtain ⟨k, hk, rfl, rfl, hb⟩ := hrel
    have HW := Lib.hid hb
    have HB := Lib.hid (Kit.step HB2.out hb)
    clear hb
    by_cases hlt : k < a.length
    · obtain ⟨b1, off1, rfl, hb1, hcell⟩ := (HA.out.later HB.out).cells (by simp; omega)
      have hc1 : wr.cell? ⟨b1, off1 + k, none⟩ = some (.int .u8 ((co a k).toNat : Int)) := hcell k _ (bytesV_get a k hlt)
      have hltb : k < b.length := by have := HL.out; omega
      obtain ⟨b2, off2, rfl, hb2, hcell2⟩ := (HBB.out.later HB.out).cells (by simp; omega)
      have hc2 : wr.cell? ⟨b2, off2 + k, none⟩ = some (.int .u8 ((co b k).toNat : Int)) := hcell2 k _ (bytesV_get b k hltb)
      have hk0 : (0 : Int) ≤ (k : Int) := by omega
      have hk1 : (k : Int) < (a.length : Int) := by omega
      have hxl := UInt8.toNat_lt (co a k)
      have hyl := UInt8.toNat_lt (co b k)
      have hdl := dfL_length a b k
      clear hcell hcell2
      by_cases he : co a k = co b k
      · have HD : Hid (dfL a b (k + 1) = dfL a b k) := Lib.hid (if_pos he)
        rw [← he] at hc2
        generalize co a k = x at *
        clear he
        go_wp2_with fail
        go_quiet (fail)
        go_wp2_with fail
        go_roundw
        case rel => exact ⟨k + 1, by omega, by go_num, by rw [HD.out], HW.out.trans ⟨rfl, rfl, rfl, Nat.le_refl _, fun _ _ => rfl⟩⟩
        case measure => simp [intOf]; omega
      · have HD : Hid ((dfL a b (k + 1)).length = (dfL a b k).length + 1) := Lib.hid (by rw [dfL, if_neg he]; simp)
        obtain ⟨h1, h2⟩ := HAT.out k hlt he
        have hne : ¬ (co a k).toNat = (co b k).toNat := fun e => he (Gf.u8_ext e)
        obtain ⟨j, hj⟩ : ∃ j, (dfL a b k).length = j := ⟨_, rfl⟩
        rw [hj] at h1 h2 hdl HD ⊢
        obtain ⟨b3, off3, rfl, hb3, hcell3⟩ := (HLR.out.later HW.out).cells (by simp; omega)
        have hc3 : wr.cell? ⟨b3, off3 + j, none⟩ = some (.int .i64 (k : Int)) := hcell3 j _ (by simp [intsV, h2])
        have hc3' : wr.drew.cell? ⟨b3, off3 + j, none⟩ = some (.int .i64 (k : Int)) := hc3
        have hdj : decide ((L.length : Int) ≤ (j : Int)) = false := decide_eq_false (by omega)
        have hj1 : (j : Int) < (L.length : Int) := by omega
        generalize co a k = x at *
        generalize co b k = y at *
        have hnb : ((x.toNat : Int) == (y.toNat : Int)) = false := beq_false_of_ne (by omega)
        have hnd : decide ((x.toNat : Int) = (y.toNat : Int)) = false := decide_eq_false (by omega)
        clear he hne hj hcell3 h2
        go_wp2_with fail
        go_quiet (fail)
        go_wp2_with fail
        go_roundw
        case rel => exact ⟨k + 1, by omega, by go_num, by rw [HD.out]; congr 1, HW.out.trans ⟨rfl, rfl, rfl, Nat.le_refl _, fun _ _ => rfl⟩⟩
        case measure => simp [intOf]; omega
    · have hka : k = a.length := by omega
      rw [HEN.out k hka]
      subst hka
      clear HAT HEN HLR
      go_wp2_with fail
      refine (encode_all a o c wr pe (glob_later HE.out HB.out) (HA.out.later HB.out)).mono ?_; rintro e w3 ⟨x, e1, rfl, hb, h1⟩
      have HB3 := Lib.hid (Kit.step HB.out hb)
      have H1 := Lib.hid h1
      clear hb h1
      go_wp2_with fail
      refine (HEB.out w3 (glob_later HE.out HB3.out) (HBB.out.later HB3.out)).mono ?_; rintro e w4 ⟨y, e2, rfl, hb, h2⟩
      have HB4 := Lib.hid (Kit.step HB3.out hb)
      rcases H1.out with ⟨hl1, hl2, rfl, r, hr, hcA, hX⟩ | ⟨_, _, rfl⟩
      · rcases h2 with ⟨_, _, rfl, r2, hr2, hcB, hY⟩ | ⟨hbad, _, _⟩
        · have hX4 := hX.later hb
          have k1 := conv_rv (⟨_, _, rfl, HA.out.later HB4.out⟩ : RowV a (.slice o a.length c) w4)
          have hBr : RowV b (.slice o2 a.length c2) w4 := ⟨_, _, by rw [← HL.out], HBB.out.later HB4.out⟩
          have k2 := conv_rv hBr
          have k3 := conv_rv hX4
          have k4 := conv_rv hY
          have hq1 := str_beq a b
          have hq2 := str_beq (a ++ r) (b ++ r2)
          have hL := HL.out
          have hXl : (a ++ r).length = a.length + 32 := by rw [List.length_append, hr]
          have hYl : (b ++ r2).length = a.length + 32 := by rw [List.length_append, hr2, ← hL]
          by_cases hab : a = b
          · have hrr : r = r2 := by subst hab; exact IsCode.only hcA hcB hr hr2 hl2
            have e1 : (a == b) = true := by simp [hab]
            have e2 : (a ++ r == b ++ r2) = true := by simp [hab, hrr]
            rw [e1] at hq1
            rw [e2] at hq2
            clear H1 hX hb hcA hcB hX4 hY hab hrr e1 e2 hL hXl hYl
            generalize a ++ r = X at *
            generalize b ++ r2 = Y at *
            generalize (⟨a.toArray⟩ : ByteArray) = SA at *
            generalize (⟨b.toArray⟩ : ByteArray) = SB at *
            generalize (⟨X.toArray⟩ : ByteArray) = SX at *
            generalize (⟨Y.toArray⟩ : ByteArray) = SY at *
            go_wp2_with fail
            go_ret
            exact ⟨rfl, HB4.out⟩
          · have hXY : a ++ r ≠ b ++ r2 := fun e => hab (List.append_inj e (by rw [hL])).1
            have e1 : (a == b) = false := by simpa using hab
            have e2 : (a ++ r == b ++ r2) = false := by simpa using hXY
            have hdn : 32 < (dfL (a ++ r) (b ++ r2) (a ++ r).length).length := by
              rw [dfL_diffs _ _ (by rw [hXl, hYl])]
              exact Nat.lt_of_not_le fun hle => hXY (IsCode.apart hcA hcB (by rw [hXl, hYl]) (by omega) hle)
            rw [e1] at hq1
            rw [e2] at hq2
            obtain ⟨o3, c3, rfl, hX4⟩ := hX4
            obtain ⟨o4, c4, rfl, hY⟩ := hY
            have hDF := differ_any (a ++ r) (b ++ r2) o3 o4 c3 c4 w4 hX4 hY (by rw [hXl, hYl]) (by omega)
            clear H1 hX hb hcA hcB hX4 hY hab hXY e1 e2 hL
            generalize a ++ r = X at *
            generalize b ++ r2 = Y at *
            generalize (⟨a.toArray⟩ : ByteArray) = SA at *
            generalize (⟨b.toArray⟩ : ByteArray) = SB at *
            generalize (⟨X.toArray⟩ : ByteArray) = SX at *
            generalize (⟨Y.toArray⟩ : ByteArray) = SY at *
            generalize dfL X Y X.length = M at *
            have HDN := Lib.hid hdn
            have HDF := Lib.hid hDF
            have hM : decide ((32 : Int) < (M.length : Int)) = true := decide_eq_true (by omega)
            clear hDF hdn hXl hYl
            go_wp2_with fail
            refine HDF.out.mono ?_; rintro e w5 ⟨q, rfl, ⟨o5, c5, rfl, hq⟩, hb⟩
            have HB5 := Lib.hid (Kit.step HB4.out hb)
            have hqc := hq.cap
            have hql := hq.le
            simp only [intsV_length] at hql
            unfold maxLen at hqc
            clear hb hq HDF
            go_wp2_with fail
            go_ret
            exact ⟨rfl, HB5.out⟩
        · exact absurd hbad (by omega)
      · clear H1 h2 hb
        go_wp2_with fail
        go_ret
        exact ⟨rfl, HB4.out⟩
theorem apt_walk (a b : List UInt8) (o o2 : Option Addr) (c c2 : Nat) (w : World) (pe : Addr) (hE : w.cell? ⟨0, 0, none⟩ = some (.iface 92 (.pointer (some pe)))) (hA : RowIs w o (bytesV a) c) (hB : RowIs w o2 (bytesV b) c2) :
    Calls Tryd.prog 5 #[.slice o a.length c, .slice o2 b.length c2] w fun e w' => e = .returned (.bool true) ∧ Below w.heap.size w w' := by
  have hca := hA.cap
  have hcb := hB.cap
  have h1 := hA.le
  have h2 := hB.le
  simp only [bytesV_length] at h1 h2
  unfold maxLen at hca hcb
  by_cases h3 : 300 < a.length
  · exact apt_longa a.length b.length c c2 o o2 w h3 (by omega) (by omega)
  · by_cases h4 : 300 < b.length
    · exact apt_longb a.length b.length c c2 o o2 w (by omega) h4 (by omega)
    · by_cases h5 : a.length = b.length
      · exact apt_eq a b o o2 c c2 w pe hE hA hB h5 (by omega)
      · exact apt_ne a b o o2 c c2 w pe hE hA hB h5 (by omega) (by omega)
end Go.Proofs.YtkkmgjjafbjnjaaDoor
