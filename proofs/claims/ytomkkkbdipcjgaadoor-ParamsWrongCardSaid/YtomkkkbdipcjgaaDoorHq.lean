/- Digests, plain: words, rounds, chunks, what follows the bytes; the digest of three bytes is computed. What a hash holds of which bytes were put. The words' functions: the code's, and the document's. A block of cells that is one array or one struct: what it holds, cell for cell; stores of one cell, of many; by value. Words as the machine has them. A chunk's words, the state behind a chunk: the code's. The state behind a chunk: the code's. -/
import Derived.Test.YtomkkkbdipcjgaaDoorKit
import Derived.Test.YtomkkkbdipcjgaaDoorSl
import Derived.Laws.BitsLemmas
import Derived.Lib.Hide
import Derived.Deep.QuietTactic
import Derived.BigQuiet
import Derived.Deep.MidRow
import Derived.Laws.Rows
import Derived.Laws.ResultCell
import Derived.BigRegion
import Derived.RangeFuncRecord
import Derived.Tactics
import Derived.Tactics2
import Derived.Test.YtomkkkbdipcjgaaDoorQt
import Derived.StillTailTactics
namespace Go.Proofs.YtomkkkbdipcjgaaDoor.Da
def rotr (x : UInt32) (n : Nat) : UInt32 := UInt32.ofNat (x.toNat / 2 ^ n) ||| UInt32.ofNat (x.toNat * 2 ^ (32 - n))
def shr (x : UInt32) (n : Nat) : UInt32 := UInt32.ofNat (x.toNat / 2 ^ n)
def small (x : UInt32) (a b c : Nat) : UInt32 := rotr x a ^^^ rotr x b ^^^ shr x c
def great (x : UInt32) (a b c : Nat) : UInt32 := rotr x a ^^^ rotr x b ^^^ rotr x c
def ch (x y z : UInt32) : UInt32 := (x &&& y) ^^^ (~~~x &&& z)
def mj (x y z : UInt32) : UInt32 := (x &&& y) ^^^ (x &&& z) ^^^ (y &&& z)
def add (x y : UInt32) : UInt32 := x + y
def wi (l : List UInt32) (i : Nat) : UInt32 := l.getD i 0
def begins : List UInt32 := [0x6a09e667, 0xbb67ae85, 0x3c6ef372, 0xa54ff53a, 0x510e527f, 0x9b05688c, 0x1f83d9ab, 0x5be0cd19]
def cubes : List UInt32 := [
  0x428a2f98, 0x71374491, 0xb5c0fbcf, 0xe9b5dba5, 0x3956c25b, 0x59f111f1, 0x923f82a4, 0xab1c5ed5,
  0xd807aa98, 0x12835b01, 0x243185be, 0x550c7dc3, 0x72be5d74, 0x80deb1fe, 0x9bdc06a7, 0xc19bf174,
  0xe49b69c1, 0xefbe4786, 0x0fc19dc6, 0x240ca1cc, 0x2de92c6f, 0x4a7484aa, 0x5cb0a9dc, 0x76f988da,
  0x983e5152, 0xa831c66d, 0xb00327c8, 0xbf597fc7, 0xc6e00bf3, 0xd5a79147, 0x06ca6351, 0x14292967,
  0x27b70a85, 0x2e1b2138, 0x4d2c6dfc, 0x53380d13, 0x650a7354, 0x766a0abb, 0x81c2c92e, 0x92722c85,
  0xa2bfe8a1, 0xa81a664b, 0xc24b8b70, 0xc76c51a3, 0xd192e819, 0xd6990624, 0xf40e3585, 0x106aa070,
  0x19a4c116, 0x1e376c08, 0x2748774c, 0x34b0bcb5, 0x391c0cb3, 0x4ed8aa4a, 0x5b9cca4f, 0x682e6ff3,
  0x748f82ee, 0x78a5636f, 0x84c87814, 0x8cc70208, 0x90befffa, 0xa4506ceb, 0xbef9a3f7, 0xc67178f2]
/-- the first n bytes of word t -/
def part (bs : List UInt8) (t : Nat) : Nat → UInt32
  | 0 => 0
  | n + 1 => UInt32.ofNat ((part bs t n).toNat * 256) ||| UInt32.ofNat (bs.getD (4 * t + n) 0).toNat
def tb (f : Nat → UInt32) (n : Nat) : List UInt32 := (List.range n).map f
def fw (bs : List UInt8) (i : Nat) : List UInt32 := tb (fun t => part bs t (min 4 (i - 4 * t))) 64
def nw (l : List UInt32) (t : Nat) : UInt32 := add (add (add (small (wi l (t - 2)) 17 19 10) (wi l (t - 7))) (small (wi l (t - 15)) 7 18 3)) (wi l (t - 16))
def sx (bs : List UInt8) : Nat → List UInt32
  | 0 => fw bs 64
  | k + 1 => (sx bs k).set (k + 16) (nw (sx bs k) (k + 16))
structure St where
  a : UInt32
  b : UInt32
  c : UInt32
  d : UInt32
  e : UInt32
  f : UInt32
  g : UInt32
  h : UInt32
def t1 (s : St) (k w : UInt32) : UInt32 := add (add (add (add s.h (great s.e 6 11 25)) (ch s.e s.f s.g)) k) w
def t2 (s : St) : UInt32 := add (great s.a 2 13 22) (mj s.a s.b s.c)
def rd (s : St) (k w : UInt32) : St := ⟨add (t1 s k w) (t2 s), s.a, s.b, s.c, add s.d (t1 s k w), s.e, s.f, s.g⟩
def rs (s : St) (w : List UInt32) : Nat → St
  | 0 => s
  | k + 1 => rd (rs s w k) (wi cubes k) (wi w k)
def St.of (l : List UInt32) : St := ⟨wi l 0, wi l 1, wi l 2, wi l 3, wi l 4, wi l 5, wi l 6, wi l 7⟩
def St.list (s : St) : List UInt32 := [s.a, s.b, s.c, s.d, s.e, s.f, s.g, s.h]
def comp (l : List UInt32) (bs : List UInt8) : List UInt32 := tb (fun i => add (wi l i) (wi (rs (St.of l) (sx bs 48) 64).list i)) 8
def hx (bs : List UInt8) : Nat → List UInt32
  | 0 => begins
  | k + 1 => comp (hx bs k) ((bs.drop (64 * k)).take 64)
def zn (n : Nat) : Nat := (if 64 - n % 64 < 9 then 128 - n % 64 else 64 - n % 64) - 9
def be8 (m : Nat) : List UInt8 := (List.range 8).map fun i => UInt8.ofNat (m / 256 ^ (7 - i))
def pad (n : Nat) : List UInt8 := 128 :: (List.replicate (zn n) 0 ++ be8 (8 * n))
def digs (l : List UInt32) : List UInt8 := (List.range 32).map fun j => UInt8.ofNat ((wi l (j / 4)).toNat / 2 ^ (24 - 8 * (j % 4)))
def full (bs : List UInt8) : List UInt8 := bs ++ pad bs.length
def sha (bs : List UInt8) : List UInt8 := digs (hx (full bs) ((full bs).length / 64))
def abc : List UInt8 := [0xba,0x78,0x16,0xbf,0x8f,0x01,0xcf,0xea,0x41,0x41,0x40,0xde,0x5d,0xae,0x22,0x23,0xb0,0x03,0x61,0xa3,0x96,0x17,0x7a,0x9c,0xb4,0x10,0xff,0x61,0xf2,0x00,0x15,0xad]
set_option maxRecDepth 100000 in
theorem abc_ok : sha [97, 98, 99] = abc := by decide +kernel
theorem tb_length (f : Nat → UInt32) (n : Nat) : (tb f n).length = n := by simp [tb]
theorem wi_tb (f : Nat → UInt32) (n i : Nat) (h : i < n) : wi (tb f n) i = f i := by simp [wi, tb, h]
theorem tb_set (f : Nat → UInt32) (n i : Nat) (x : UInt32) : (tb f n).set i x = tb (fun t => if t = i then x else f t) n := by
  refine List.ext_getElem (by simp [tb]) fun j h1 h2 => ?_
  simp only [tb, List.getElem_set, List.getElem_map, List.getElem_range]
  by_cases e : i = j
  · subst e; simp
  · rw [if_neg e, if_neg (fun e' => e e'.symm)]
theorem tb_congr {f g : Nat → UInt32} {n : Nat} (h : ∀ i, i < n → f i = g i) : tb f n = tb g n := by
  unfold tb
  exact List.map_congr_left fun i hi => h i (by simpa using hi)
theorem tb_wi (l : List UInt32) : tb (wi l) l.length = l := by
  refine List.ext_getElem (by simp [tb]) fun j h1 h2 => ?_
  simp [tb, wi, h2]
theorem fw_length (bs : List UInt8) (i : Nat) : (fw bs i).length = 64 := tb_length _ _
theorem fw_zero (bs : List UInt8) : fw bs 0 = List.replicate 64 0 := by
  refine List.ext_getElem (by simp [fw, tb]) fun j h1 h2 => ?_
  rw [List.getElem_replicate]; simp only [fw, tb, List.getElem_map, Nat.zero_sub, Nat.min_zero, part]
theorem fw_step (bs : List UInt8) (i : Nat) (h : i < 64) :
    (fw bs i).set (i / 4) (UInt32.ofNat ((wi (fw bs i) (i / 4)).toNat * 256) ||| UInt32.ofNat (bs.getD i 0).toNat) = fw bs (i + 1) := by
  rw [show wi (fw bs i) (i / 4) = part bs (i / 4) (i % 4) from by
    unfold fw
    rw [wi_tb _ _ _ (by omega)]
    congr 1; omega]
  unfold fw
  rw [tb_set]
  refine tb_congr fun t ht => ?_
  by_cases e : t = i / 4
  · rw [if_pos e, show min 4 (i + 1 - 4 * t) = i % 4 + 1 by omega]
    subst e
    rw [part, show 4 * (i / 4) + i % 4 = i by omega]
  · rw [if_neg e]
    congr 1; omega
/-- the first k words, the others nought -/
def gw (bs : List UInt8) (k : Nat) : List UInt32 := tb (fun t => if t < k then part bs t 4 else 0) 64
theorem gw_length (bs : List UInt8) (i : Nat) : (gw bs i).length = 64 := tb_length _ _
theorem gw_zero (bs : List UInt8) : gw bs 0 = List.replicate 64 0 := by
  refine List.ext_getElem (by simp [gw, tb]) fun j h1 h2 => ?_
  rw [List.getElem_replicate]; simp only [gw, tb, List.getElem_map, Nat.not_lt_zero, if_false]
theorem gw_step (bs : List UInt8) (k : Nat) : (gw bs k).set k (part bs k 4) = gw bs (k + 1) := by
  unfold gw
  rw [tb_set]
  refine tb_congr fun t ht => ?_
  by_cases e : t = k
  · subst e; simp
  · rw [if_neg e]
    by_cases e2 : t < k
    · rw [if_pos e2, if_pos (by omega)]
    · rw [if_neg e2, if_neg (by omega)]
theorem gw_end (bs : List UInt8) : gw bs 16 = sx bs 0 := by
  unfold gw sx fw
  refine tb_congr fun t ht => ?_
  by_cases e : t < 16
  · rw [if_pos e, show min 4 (64 - 4 * t) = 4 by omega]
  · rw [if_neg e, show min 4 (64 - 4 * t) = 0 by omega]; rfl
theorem sx_length (bs : List UInt8) : ∀ k, (sx bs k).length = 64
  | 0 => fw_length _ _
  | k + 1 => by simp [sx, sx_length bs k]
theorem wi_get (l : List UInt32) (i : Nat) (h : i < l.length) : l[i]? = some (wi l i) := by simp [wi, h]
theorem begins_length : begins.length = 8 := rfl
theorem comp_length (l : List UInt32) (bs : List UInt8) : (comp l bs).length = 8 := tb_length _ _
theorem hx_length (bs : List UInt8) : ∀ k, (hx bs k).length = 8
  | 0 => rfl
  | _ + 1 => comp_length _ _
theorem hx_pre (bs cs : List UInt8) : ∀ k, 64 * k ≤ bs.length → hx (bs ++ cs) k = hx bs k
  | 0, _ => rfl
  | k + 1, h => by
    rw [hx, hx, hx_pre bs cs k (by omega), List.drop_append_of_le_length (by omega), List.take_append_of_le_length (by rw [List.length_drop]; omega)]
theorem be8_length (m : Nat) : (be8 m).length = 8 := by simp [be8]
theorem pad_length (n : Nat) : (pad n).length = zn n + 9 := by simp [pad, be8_length]
theorem zn_le (n : Nat) : zn n ≤ 63 := by unfold zn; split <;> omega
theorem full_length (bs : List UInt8) : (full bs).length = bs.length + (zn bs.length + 9) := by rw [full, List.length_append, pad_length]
theorem full_mod (bs : List UInt8) : (full bs).length % 64 = 0 := by
  rw [full_length]; unfold zn; split <;> omega
theorem digs_length (l : List UInt32) : (digs l).length = 32 := by simp [digs]
theorem sha_length (bs : List UInt8) : (sha bs).length = 32 := digs_length _
/-- one step of the second words: what the two texts do alike -/
theorem sx_step (bs : List UInt8) (k : Nat) : (sx bs k).set (k + 16) (nw (sx bs k) (k + 16)) = sx bs (k + 1) := rfl
/-- the state, of which the first k words have been added to -/
def ax (l : List UInt32) (s : St) (k : Nat) : List UInt32 := tb (fun i => if i < k then add (wi l i) (wi s.list i) else wi l i) 8
theorem ax_length (l : List UInt32) (s : St) (k : Nat) : (ax l s k).length = 8 := tb_length _ _
theorem ax_zero (l : List UInt32) (s : St) (h : l.length = 8) : ax l s 0 = l := by
  unfold ax
  rw [← h]
  exact (tb_congr fun i _ => by simp).trans (tb_wi l)
theorem ax_step (l : List UInt32) (s : St) (k : Nat) (h : k < 8) : (ax l s k).set k (add (wi (ax l s k) k) (wi s.list k)) = ax l s (k + 1) := by
  rw [show wi (ax l s k) k = wi l k from by unfold ax; rw [wi_tb _ _ _ h]; simp]
  unfold ax
  rw [tb_set]
  refine tb_congr fun t ht => ?_
  by_cases e : t = k
  · subst e; simp
  · rw [if_neg e]
    by_cases e2 : t < k
    · rw [if_pos e2, if_pos (by omega)]
    · rw [if_neg e2, if_neg (by omega)]
theorem ax_end (l : List UInt32) (bs : List UInt8) : ax l (rs (St.of l) (sx bs 48) 64) 8 = comp l bs := by
  unfold ax comp
  exact tb_congr fun i hi => by rw [if_pos hi]

/-- what a hash holds in memory, of which the bytes p were put: state, rest -/
structure Hok (p : List UInt8) (st : List UInt32) (rs : List UInt8) : Prop where
  len : rs.length = 64
  st : st = hx p (p.length / 64)
  rs : rs.take (p.length % 64) = p.drop (64 * (p.length / 64))
theorem Hok.slen {p : List UInt8} {st : List UInt32} {rs : List UInt8} (h : Hok p st rs) : st.length = 8 := by rw [h.st, hx_length]
theorem Hok.zero (rs : List UInt8) (h : rs.length = 64) : Hok [] begins rs := ⟨h, rfl, by simp⟩
/-- bytes laid over others from m on -/
def over (rs : List UInt8) (m : Nat) (r : List UInt8) : List UInt8 := rs.take m ++ r ++ rs.drop (m + r.length)
theorem over_length (rs : List UInt8) (m : Nat) (r : List UInt8) (h : m + r.length ≤ rs.length) : (over rs m r).length = rs.length := by simp [over]; omega
theorem over_take (rs : List UInt8) (m : Nat) (r : List UInt8) (h : m + r.length ≤ rs.length) : (over rs m r).take (m + r.length) = rs.take m ++ r := by
  unfold over
  exact List.take_left' (by simp; omega)
/-- bytes that do not fill the chunk -/
theorem Hok.more {p : List UInt8} {st : List UInt32} {rs : List UInt8} (h : Hok p st rs) (r : List UInt8) (hr : p.length % 64 + r.length < 64) :
    Hok (p ++ r) st (over rs (p.length % 64) r) := by
  have hl := h.len
  have hq : (p ++ r).length / 64 = p.length / 64 := by rw [List.length_append]; omega
  have hm : (p ++ r).length % 64 = p.length % 64 + r.length := by rw [List.length_append]; omega
  refine ⟨by rw [over_length _ _ _ (by omega), hl], ?_, ?_⟩
  · rw [hq, hx_pre _ _ _ (by omega), h.st]
  · rw [hm, hq, over_take _ _ _ (by omega), h.rs, List.drop_append_of_le_length (by omega)]
/-- bytes that fill the chunk -/
theorem Hok.fill {p : List UInt8} {st : List UInt32} {rs : List UInt8} (h : Hok p st rs) (r : List UInt8) (hr : p.length % 64 + r.length = 64) :
    Hok (p ++ r) (comp st (over rs (p.length % 64) r)) (over rs (p.length % 64) r) := by
  have hl := h.len
  have hq : (p ++ r).length / 64 = p.length / 64 + 1 := by rw [List.length_append]; omega
  have hm : (p ++ r).length % 64 = 0 := by rw [List.length_append]; omega
  have ho : over rs (p.length % 64) r = rs.take (p.length % 64) ++ r := by
    unfold over
    rw [hr, List.drop_eq_nil_of_le (by omega), List.append_nil]
  refine ⟨by rw [over_length _ _ _ (by omega), hl], ?_, ?_⟩
  · rw [hq, hx, hx_pre _ _ _ (by omega), ← h.st]
    congr 1
    rw [ho, h.rs, List.drop_append_of_le_length (by omega), List.take_of_length_le (by simp; omega)]
  · rw [hm, hq]
    rw [List.take_zero, List.drop_eq_nil_of_le (by rw [List.length_append]; omega)]
/-- at the end -/
theorem Hok.sha {p : List UInt8} {st : List UInt32} {rs : List UInt8} (h : Hok (full p) st rs) : digs st = sha p := by rw [h.st]; rfl
/-- the word that the document's text reads -/
theorem word_part (bs : List UInt8) (t : Nat) :
    UInt32.ofNat ((bs.getD (4 * t) 0).toNat * 2 ^ 24) ||| UInt32.ofNat ((bs.getD (4 * t + 1) 0).toNat * 2 ^ 16) ||| UInt32.ofNat ((bs.getD (4 * t + 2) 0).toNat * 2 ^ 8) ||| UInt32.ofNat (bs.getD (4 * t + 3) 0).toNat = part bs t 4 := by
  generalize hx0 : (bs.getD (4 * t) 0).toNat = x0
  generalize hx1 : (bs.getD (4 * t + 1) 0).toNat = x1
  generalize hx2 : (bs.getD (4 * t + 2) 0).toNat = x2
  generalize hx3 : (bs.getD (4 * t + 3) 0).toNat = x3
  have key : ∀ (u : UInt32) (x : Nat), UInt32.ofNat (u.toNat * 256) ||| UInt32.ofNat x = (u <<< 8) ||| UInt32.ofNat x := fun u x => by
    congr 1
    apply UInt32.toNat_inj.1
    simp [Nat.shiftLeft_eq]
  have k2 : ∀ (x n : Nat), n < 32 → UInt32.ofNat (x * 2 ^ n) = UInt32.ofNat x <<< (UInt32.ofNat n) := fun x n hn => by
    apply UInt32.toNat_inj.1
    simp [Nat.shiftLeft_eq, Nat.mod_eq_of_lt (show n < 4294967296 by omega), Nat.mod_eq_of_lt hn]
  simp only [part, key]
  rw [show 4 * t + 0 = 4 * t from rfl, hx0, hx1, hx2, hx3, k2 x0 24 (by decide), k2 x1 16 (by decide), k2 x2 8 (by decide)]
  apply UInt32.toBitVec_inj.1
  simp only [UInt32.toBitVec_or, UInt32.toBitVec_shiftLeft]
  generalize (UInt32.ofNat x0).toBitVec = y0
  generalize (UInt32.ofNat x1).toBitVec = y1
  generalize (UInt32.ofNat x2).toBitVec = y2
  generalize (UInt32.ofNat x3).toBitVec = y3
  rw [show (UInt32.ofNat 24).toBitVec % (32 : BitVec 32) = 24#32 from rfl, show (UInt32.ofNat 16).toBitVec % (32 : BitVec 32) = 16#32 from rfl, show (UInt32.ofNat 8).toBitVec % (32 : BitVec 32) = 8#32 from rfl, show (8 : UInt32).toBitVec % (32 : BitVec 32) = 8#32 from rfl, show (0 : UInt32).toBitVec = 0#32 from rfl]
  simp only [BitVec.shiftLeft_eq', BitVec.shiftLeft_or_distrib, ← BitVec.shiftLeft_add]
  simp
end Go.Proofs.YtomkkkbdipcjgaaDoor.Da
namespace Go.Proofs.YtomkkkbdipcjgaaDoor
open Go.RowKit
set_option linter.unusedVariables false
theorem u32_lt (x : UInt32) : x.toNat < 4294967296 := UInt32.toNat_lt x
theorem u32_cast (n : Nat) (h : n < 4294967296) : IntKind.u32.wrap (n : Int) = (n : Int) := by rw [IntKind.wrap_u32]; omega
theorem u32_and (a b : UInt32) : bits .and .u32 (a.toNat : Int) (b.toNat : Int) = ((a &&& b).toNat : Int) := by
  rw [UInt32.toNat_and]
  exact (bits_nat .u32 32 (by decide) (fun n h0 h1 => by rw [IntKind.wrap_u32]; omega) _ _ (u32_lt a) (u32_lt b)).1
theorem u32_or (a b : UInt32) : bits .or .u32 (a.toNat : Int) (b.toNat : Int) = ((a ||| b).toNat : Int) := by
  rw [UInt32.toNat_or]
  exact (bits_nat .u32 32 (by decide) (fun n h0 h1 => by rw [IntKind.wrap_u32]; omega) _ _ (u32_lt a) (u32_lt b)).2
theorem u32_xor (a b : UInt32) : bits .xor .u32 (a.toNat : Int) (b.toNat : Int) = ((a ^^^ b).toNat : Int) := by
  have ha : a.toNat % 2 ^ IntKind.u32.bits = a.toNat := Nat.mod_eq_of_lt (u32_lt a)
  have hb : b.toNat % 2 ^ IntKind.u32.bits = b.toNat := Nat.mod_eq_of_lt (u32_lt b)
  simp only [bits, BitVec.ofInt_natCast, BitVec.toNat_xor, BitVec.toNat_ofNat, ha, hb]
  rw [u32_cast _ (by rw [← UInt32.toNat_xor]; exact u32_lt _), UInt32.toNat_xor]
theorem u32_not (a : UInt32) : bits .xor .u32 IntKind.u32.max (a.toNat : Int) = ((~~~a).toNat : Int) := by
  rw [show IntKind.u32.max = (((4294967295 : UInt32).toNat : Nat) : Int) from rfl, u32_xor]
  rfl
theorem u32_add (a b : UInt32) : IntKind.u32.wrap ((a.toNat : Int) + (b.toNat : Int)) = ((Da.add a b).toNat : Int) := by
  rw [Da.add, UInt32.toNat_add, IntKind.wrap_u32]; omega
theorem u32_add' (a b : UInt32) : ((a.toNat : Int) + (b.toNat : Int)) % 4294967296 = ((Da.add a b).toNat : Int) := by rw [← u32_add, IntKind.wrap_u32]
theorem u32_shl (x n : Nat) : IntKind.u32.wrap ((x : Int) * 2 ^ n) = ((UInt32.ofNat (x * 2 ^ n)).toNat : Int) := by
  rw [UInt32.toNat_ofNat', IntKind.wrap_u32]; rw [Int.natCast_emod, Int.natCast_mul, Int.natCast_pow]; rfl
theorem u32_shl' (x n : Nat) : ((x : Int) * 2 ^ n) % 4294967296 = ((UInt32.ofNat (x * 2 ^ n)).toNat : Int) := by rw [← u32_shl, IntKind.wrap_u32]
theorem u32_shr (x : UInt32) (n : Nat) : ((x.toNat : Int) / 2 ^ n) = ((Da.shr x n).toNat : Int) := by
  have h : x.toNat / 2 ^ n < 4294967296 := Nat.lt_of_le_of_lt (Nat.div_le_self _ _) (u32_lt x)
  rw [Da.shr, UInt32.toNat_ofNat', Nat.mod_eq_of_lt h]; push_cast; rfl
theorem rotr_eq (x : UInt32) (n : Nat) : Da.rotr x n = Da.shr x n ||| UInt32.ofNat (x.toNat * 2 ^ (32 - n)) := rfl

end Go.Proofs.YtomkkkbdipcjgaaDoor
namespace Go.Proofs.YtomkkkbdipcjgaaDoor
open Go.RowKit
set_option linter.unusedVariables false
/-- words as the machine has them -/
def u32V (z : List UInt32) : List Value := z.map fun x => .int .u32 (x.toNat : Int)
@[simp] theorem u32V_length (z : List UInt32) : (u32V z).length = z.length := by simp [u32V]
theorem u32V_get (z : List UInt32) (i : Nat) (h : i < z.length) : (u32V z)[i]? = some (.int .u32 ((Da.wi z i).toNat : Int)) := by
  simp [u32V, Da.wi, h]
theorem u32V_one (z : List UInt32) : ∀ u ∈ u32V z, u.oneCell' = true := by
  intro u hu
  obtain ⟨x, _, rfl⟩ := List.mem_map.1 hu
  rfl
theorem u32V_set (z : List UInt32) (i : Nat) (x : UInt32) : (u32V z).set i (.int .u32 (x.toNat : Int)) = u32V (z.set i x) := by simp [u32V, List.map_set]
theorem bytesV_set' (z : List UInt8) (i : Nat) (x : UInt8) : (bytesV z).set i (.int .u8 (x.toNat : Int)) = bytesV (z.set i x) := by simp [bytesV, List.map_set]
theorem bytesV_app (a b : List UInt8) : bytesV (a ++ b) = bytesV a ++ bytesV b := by simp [bytesV]

/-- block b is the cells xs -/
def Arr (W : World) (b : Nat) (T : TypeId) (xs : List Value) : Prop := W.heap[b]? = some (.cells xs.toArray T (0, 0))
theorem Arr.lt {W : World} {b : Nat} {T : TypeId} {xs : List Value} (h : Arr W b T xs) : b < W.heap.size := (Array.getElem?_eq_some_iff.1 h).1
theorem Arr.cell {W : World} {b : Nat} {T : TypeId} {xs : List Value} (h : Arr W b T xs) (i : Nat) : W.cell? ⟨b, i, none⟩ = xs[i]? := by
  rw [cell_of_row W b i xs.toArray T (0, 0) h, List.getElem?_toArray]
theorem Arr.frozen {W : World} {b : Nat} {T : TypeId} {xs : List Value} (h : Arr W b T xs) (i : Nat) : W.frozen? ⟨b, i, none⟩ = false := by
  unfold World.frozen?
  rw [show W.heap[b]? = _ from h]
  rfl
theorem Arr.later {W W' : World} {B b : Nat} {T : TypeId} {xs : List Value} (h : Arr W b T xs) (hb : Below B W W') (hlt : b < B) : Arr W' b T xs := by
  unfold Arr
  rw [hb.block b hlt]
  exact h
theorem Arr.drew {W : World} {b : Nat} {T : TypeId} {xs : List Value} (h : Arr W b T xs) : Arr W.drew b T xs := h
theorem Arr.drewN {W : World} {b : Nat} {T : TypeId} {xs : List Value} (h : Arr W b T xs) (n : Nat) : Arr (W.drewN n) b T xs := h
theorem Arr.made (W : World) (T : TypeId) (xs : List Value) : Arr (W.alloc (.cells xs.toArray T)) W.heap.size T xs := World.alloc_heap_new _ _
theorem Arr.alloc {W : World} {b : Nat} {T : TypeId} {xs : List Value} (h : Arr W b T xs) (o : Obj) : Arr (W.alloc o) b T xs :=
  h.later ((Below.refl _ _).alloc (Nat.le_refl _) o) h.lt
theorem Arr.set {W : World} {b : Nat} {T : TypeId} {xs : List Value} (h : Arr W b T xs) (i : Nat) (v : Value) : Arr (W.setCell ⟨b, i, none⟩ v) b T (xs.set i v) := by
  unfold Arr
  rw [setCell_eq_setRow W b i _ _ _ v h, setRow_heap _ _ _ _ _ _ h]
  simp
theorem Arr.ne {W : World} {b c : Nat} {T U : TypeId} {xs ys : List Value} (h : Arr W b T xs) (k : Arr W c U ys) (hn : b ≠ c) (i : Nat) (v : Value) : Arr (W.setCell ⟨c, i, none⟩ v) b T xs := by
  unfold Arr
  rw [setCell_eq_setRow W c i _ _ _ v k, setRow_other _ _ _ _ hn]
  exact h
theorem below_row {n g : Nat} {w : World} {cs : Array Value} (h : n ≤ g) : Below n w (w.setRow g cs) :=
  ⟨rfl, rfl, rfl, by simp [World.setRow], fun k hk => setRow_other w g k cs (by omega)⟩
theorem Arr.below {w W : World} {B c : Nat} {U : TypeId} {ys : List Value} (k : Arr W c U ys) (hb : Below B w W) (hc : B ≤ c) (i : Nat) (v : Value) : Below B w (W.setCell ⟨c, i, none⟩ v) := by
  rw [setCell_eq_setRow W c i _ _ _ v k]
  exact hb.trans (below_row hc)
theorem Arr.size {W : World} {c : Nat} {U : TypeId} {ys : List Value} (k : Arr W c U ys) (i : Nat) (v : Value) : (W.setCell ⟨c, i, none⟩ v).heap.size = W.heap.size := by
  rw [setCell_eq_setRow W c i _ _ _ v k]
  simp [World.setRow]
/-- cells laid over others -/
def laid (xs : List Value) (o : Nat) (vs : List Value) : List Value := xs.take o ++ vs ++ xs.drop (o + vs.length)
theorem laid_length (xs : List Value) (o : Nat) (vs : List Value) (h : o + vs.length ≤ xs.length) : (laid xs o vs).length = xs.length := by simp [laid]; omega
theorem laid_cons (xs : List Value) (o : Nat) (v : Value) (vs : List Value) (h : o < xs.length) : laid (xs.set o v) (o + 1) vs = laid xs o (v :: vs) := by
  unfold laid
  rw [List.take_add_one, List.getElem?_set_self h, List.take_set_of_le (Nat.le_refl _), List.drop_set_of_lt (by omega)]
  simp only [Option.toList_some, List.append_assoc, List.cons_append, List.nil_append, List.length_cons]
  rw [show o + 1 + vs.length = o + (vs.length + 1) by omega]
theorem Arr.sets {b : Nat} {T : TypeId} : ∀ (vs : List Value) (o : Nat) {W : World} {xs : List Value}, Arr W b T xs → o + vs.length ≤ xs.length → Arr (W.setCells b o vs) b T (laid xs o vs)
  | [], o, W, xs, h, hl => by simpa [laid, World.setCells] using h
  | v :: vs, o, W, xs, h, hl => by
    rw [World.setCells, ← laid_cons _ _ _ _ (by simp at hl; omega)]
    exact Arr.sets vs (o + 1) (h.set o v) (by simp at hl ⊢; omega)
theorem Arr.nes {b c : Nat} {T U : TypeId} (hn : b ≠ c) {xs : List Value} : ∀ (vs : List Value) (o : Nat) {W : World} {ys : List Value}, Arr W b T xs → Arr W c U ys → Arr (W.setCells c o vs) b T xs
  | [], o, W, ys, h, k => h
  | v :: vs, o, W, ys, h, k => by
    rw [World.setCells]
    exact Arr.nes hn vs (o + 1) (h.ne k hn o v) (k.set o v)
theorem Arr.belows {w : World} {B c : Nat} {U : TypeId} (hc : B ≤ c) : ∀ (vs : List Value) (o : Nat) {W : World} {ys : List Value}, Arr W c U ys → Below B w W → Below B w (W.setCells c o vs)
  | [], o, W, ys, k, hb => hb
  | v :: vs, o, W, ys, k, hb => by
    rw [World.setCells]
    exact Arr.belows hc vs (o + 1) (k.set o v) (k.below hb hc o v)
theorem Arr.sizes {c : Nat} {U : TypeId} : ∀ (vs : List Value) (o : Nat) {W : World} {ys : List Value}, Arr W c U ys → (W.setCells c o vs).heap.size = W.heap.size
  | [], o, W, ys, k => rfl
  | v :: vs, o, W, ys, k => by
    rw [World.setCells, Arr.sizes vs (o + 1) (k.set o v), k.size o v]
theorem Arr.range {W : World} {b : Nat} {T : TypeId} {xs : List Value} (h : Arr W b T xs) (o : Nat) (cs : List Value) (hc : ∀ j v, cs[j]? = some v → xs[o + j]? = some v) : W.rangeAt b o cs := fun j v hv => by
  rw [h.cell]; exact hc j v hv
theorem Arr.there {W : World} {b : Nat} {T : TypeId} {xs : List Value} (h : Arr W b T xs) (o n : Nat) (hl : o + n ≤ xs.length) : W.there b o n := fun j hj => by
  refine ⟨?_, h.frozen _⟩
  rw [h.cell, List.getElem?_eq_getElem (by omega)]; rfl
/-- the whole, laid anew -/
theorem laid_all (xs vs : List Value) (h : vs.length = xs.length) : laid xs 0 vs = vs := by simp [laid, h]
theorem wpList_store_midTo {P : Program} {ops : Array Oper} {rest : List Oper} {op : Oper} {a : Act} {w : World} {Q : Exit → Act → World → Prop} (hgd : op.guard = none) (ty : TypeId) (x y : Operand) (ho : op.op = .store ty x y) (hdst : op.dst = none)
    (b o : Nat) (cells : Array Value) (hx : a.eval x = .pointer (some ⟨b, o, none⟩)) (hy : a.eval y = .agg cells)
    (ht : w.there b o cells.size) (hi : (P.info? ty).map (·.size) = some cells.size) (h1 : cells.all (·.oneCell') = true)
    (h : wpList P ops Q rest a (w.setCells b o cells.toList)) : wpList P ops Q (op :: rest) a w :=
  wpList_store_mid hgd ty x y ho b o cells hx hy ht hi h1 (by rw [hdst]; exact h)
/-- an element of an array by value -/
theorem run_index_one {P : Program} (T e : TypeId) (n : Nat) (C : Array Value) (k : Nat) (v : Value) (hT : P.underlying T = some (.array n e)) (hz : (P.info? e).map (·.size) = some 1) (hag : ∀ W, (isAgg e).run P W = .ok false W) (hk : k < n) (hv : C[k]? = some v) (W : World) :
    (Instr.index T (.agg C) (.int .i64 (k : Int))).run P W = .ok v W := by
  have h1 : (0 : Int) ≤ (k : Int) ∧ (k : Int) < (n : Int) := by omega
  cases hq : P.info? e with
  | none => simp [hq] at hz
  | some i =>
    have hs : i.size = 1 := by simpa [hq] using hz
    simp [Instr.index, run_underlying hT, asIntOf, h1, go_sem, sizeOf, typeInfo, hq, hs, part, hag, Sem.run_bind, hv]
    exact fun h => absurd h (by omega)
/-- a package's list of words, in its variable's block -/
structure Var (W : World) (n : Nat) (xs : List UInt32) : Prop where
  lt : n < W.heap.size
  at_ : W.rangeAt n 0 (u32V xs)
theorem Var.later {W W' : World} {n : Nat} {xs : List UInt32} (h : Var W n xs) (hb : Below W.heap.size W W') : Var W' n xs :=
  ⟨Nat.lt_of_lt_of_le h.lt hb.size, fun j v hv => by rw [hb.cell (p := ⟨n, 0 + j, none⟩) h.lt]; exact h.at_ j v hv⟩
theorem Var.cell {W : World} {n : Nat} {xs : List UInt32} (h : Var W n xs) (i : Nat) (hi : i < xs.length) : W.cell? ⟨n, i, none⟩ = some (.int .u32 ((Da.wi xs i).toNat : Int)) := by
  have := h.at_ i _ (u32V_get xs i hi)
  simpa using this
/-- the first arrays hold nought -/
def zw : List Value := u32V (List.replicate 64 0)
end Go.Proofs.YtomkkkbdipcjgaaDoor
namespace Go.Proofs.YtomkkkbdipcjgaaDoor
open Go.RowKit
set_option linter.unusedVariables false
theorem b64_info : (Tryd.prog.info? 126).map (·.size) = some 64 := by kernel_rfl
theorem b64_under : Tryd.prog.underlying 126 = some (.array 64 5) := by kernel_rfl
end Go.Proofs.YtomkkkbdipcjgaaDoor
namespace Go.Proofs.YtomkkkbdipcjgaaDoor
open Go.RowKit
set_option linter.unusedVariables false
theorem wpList_built {P : Program} {ops : Array Oper} {rest : List Oper} {o : Oper} {a : Act} {w : World} {Q : Exit → Act → World → Prop} (hg : o.guard = none) (T : TypeId) (parts : Array (Nat × Operand)) (ho : o.op = .build T parts)
    (L : List (Nat × Value)) (hL : (parts.map fun (i, x) => (i, a.eval x)).toList = L) (B : Array Value) (hb : P.built T L = some B)
    (h : wpList P ops Q rest (a.put o.dst (.agg B)) w) : wpList P ops Q (o :: rest) a w := by
  refine wpList_build hg T parts ho ?_ ?_
  · rw [hL, hb]; rfl
  · rw [hL, hb]; exact h
def u32v (x : UInt32) : Value := .int .u32 (x.toNat : Int)
end Go.Proofs.YtomkkkbdipcjgaaDoor
