/- Hq -/
import Derived.Test.YteldgablpehcpaaGreatDoorSl
import Derived.Laws.BitsLemmas
import Derived.Laws.Rows
import Derived.Laws.ResultCell
import Derived.BigRegion
import Derived.RangeFuncRecord
import Derived.Tactics
import Derived.Tactics2
import Derived.Test.YteldgablpehcpaaGreatDoorQt
import Derived.StillTailTactics
set_option linter.unusedVariables false
set_option linter.unusedSimpArgs false
set_option maxRecDepth 100000
set_option maxHeartbeats 8000000
namespace Go.Proofs.YteldgablpehcpaaGreatDoor
open Go.RowKit
namespace Da
def eH(x:UInt32)(n:Nat):UInt32:=UInt32.ofNat (x.toNat / 2^n)|||UInt32.ofNat (x.toNat*2^(32-n))
def shr(x:UInt32)(n:Nat):UInt32:=UInt32.ofNat (x.toNat / 2^n)
def small(x:UInt32)(a b c:Nat):UInt32:=eH x a^^^eH x b^^^shr x c
def nL(x:UInt32)(a b c:Nat):UInt32:=eH x a^^^eH x b^^^eH x c
def ch(x y z:UInt32):UInt32:=(x&&&y)^^^(~~~x&&&z)
def mj(x y z:UInt32):UInt32:=(x&&&y)^^^(x&&&z)^^^(y&&&z)
def add(x y:UInt32):UInt32:=x+y
def wi(l:List UInt32)(i:Nat):UInt32:=l.getD i 0
def begins:List UInt32:=[0x6a09e667,0xbb67ae85,0x3c6ef372,0xa54ff53a,0x510e527f,0x9b05688c,0x1f83d9ab,0x5be0cd19]
def cubes:List UInt32:=[
 0x428a2f98,0x71374491,0xb5c0fbcf,0xe9b5dba5,0x3956c25b,0x59f111f1,0x923f82a4,0xab1c5ed5,
 0xd807aa98,0x12835b01,0x243185be,0x550c7dc3,0x72be5d74,0x80deb1fe,0x9bdc06a7,0xc19bf174,
 0xe49b69c1,0xefbe4786,0x0fc19dc6,0x240ca1cc,0x2de92c6f,0x4a7484aa,0x5cb0a9dc,0x76f988da,
 0x983e5152,0xa831c66d,0xb00327c8,0xbf597fc7,0xc6e00bf3,0xd5a79147,0x06ca6351,0x14292967,
 0x27b70a85,0x2e1b2138,0x4d2c6dfc,0x53380d13,0x650a7354,0x766a0abb,0x81c2c92e,0x92722c85,
 0xa2bfe8a1,0xa81a664b,0xc24b8b70,0xc76c51a3,0xd192e819,0xd6990624,0xf40e3585,0x106aa070,
 0x19a4c116,0x1e376c08,0x2748774c,0x34b0bcb5,0x391c0cb3,0x4ed8aa4a,0x5b9cca4f,0x682e6ff3,
 0x748f82ee,0x78a5636f,0x84c87814,0x8cc70208,0x90befffa,0xa4506ceb,0xbef9a3f7,0xc67178f2]
def part(bs:BL)(t:Nat):Nat->UInt32
 |0=>0
 |n+1=>UInt32.ofNat ((part bs t n).toNat*256)|||UInt32.ofNat (bs.getD (4*t+n) 0).toNat
def tb(f:Nat->UInt32)(n:Nat):List UInt32:=(List.range n).map f
def fw(bs:BL)(i:Nat):List UInt32:=tb (fun t=>part bs t (min 4 (i-4*t))) 64
def nw(l:List UInt32)(t:Nat):UInt32:=add (add (add (small (wi l (t-2)) 17 19 10) (wi l (t-7))) (small (wi l (t-15)) 7 18 3)) (wi l (t-16))
def sx(bs:BL):Nat->List UInt32
 |0=>fw bs 64
 |k+1=>(sx bs k).set (k+16) (nw (sx bs k) (k+16))
structure St where
 a:UInt32
 b:UInt32
 c:UInt32
 d:UInt32
 e:UInt32
 f:UInt32
 g:UInt32
 h:UInt32
def t1(s:St)(k w:UInt32):UInt32:=add (add (add (add s.h (nL s.e 6 11 25)) (ch s.e s.f s.g)) k) w
def t2(s:St):UInt32:=add (nL s.a 2 13 22) (mj s.a s.b s.c)
def rd(s:St)(k w:UInt32):St:=⟨add (t1 s k w) (t2 s),s.a,s.b,s.c,add s.d (t1 s k w),s.e,s.f,s.g⟩
def rs(s:St)(w:List UInt32):Nat->St
 |0=>s
 |k+1=>rd (rs s w k) (wi cubes k) (wi w k)
def St.of(l:List UInt32):St:=⟨wi l 0,wi l 1,wi l 2,wi l 3,wi l 4,wi l 5,wi l 6,wi l 7⟩
def St.list(s:St):List UInt32:=[s.a,s.b,s.c,s.d,s.e,s.f,s.g,s.h]
def mB(l:List UInt32)(bs:BL):List UInt32:=tb (fun i=>add (wi l i) (wi (rs (St.of l) (sx bs 48) 64).list i)) 8
def hx(bs:BL):Nat->List UInt32
 |0=>begins
 |k+1=>mB (hx bs k) ((bs.drop (64*k)).take 64)
def zn(n:Nat):Nat:=(if 64-n % 64<9 then 128-n % 64 else 64-n % 64)-9
def be8(m:Nat):BL:=(List.range 8).map fun i=>UInt8.ofNat (m / 256^(7-i))
def pad(n:Nat):BL:=128::(List.replicate (zn n) 0++be8 (8*n))
def Cv(l:List UInt32):BL:=(List.range 32).map fun j=>UInt8.ofNat ((wi l (j / 4)).toNat / 2^(24-8*(j % 4)))
def full(bs:BL):BL:=bs++pad bs.length
def sha(bs:BL):BL:=Cv (hx (full bs) ((full bs).length / 64))
theorem od(f:Nat->UInt32)(n:Nat):(tb f n).length=n:=by simp[tb]
theorem LI(f:Nat->UInt32)(n i:Nat)(h:i<n):wi (tb f n) i=f i:=by simp[wi,tb,h]
theorem Cw(f:Nat->UInt32)(n i:Nat)(x:UInt32):(tb f n).set i x=tb (fun t=>if t=i then x else f t) n:=by
 refine List.ext_getElem (by simp[tb]) fun j h1 h2=>?_
 simp only[tb,List.getElem_set,List.getElem_map,List.getElem_range];by_cases e:i=j
 ·subst e;simp
 ·rw[if_neg e,if_neg (fun e'=>e e'.symm)]
theorem lI{f g:Nat->UInt32}{n:Nat}(h:∀i,i<n->f i=g i):tb f n=tb g n:=by
 unfold tb;exact List.map_congr_left fun i hi=>h i (by simpa using hi)
theorem Ws(l:List UInt32):tb (wi l) l.length=l:=by
 refine List.ext_getElem (by simp[tb]) fun j h1 h2=>?_
 simp[tb,wi,h2]
theorem xK(bs:BL)(i:Nat):(fw bs i).length=64:=od _ _
theorem Pv(bs:BL):fw bs 0=List.replicate 64 0:=by
 refine List.ext_getElem (by simp[fw,tb]) fun j h1 h2=>?_
 rw[List.getElem_replicate];simp only[fw,tb,List.getElem_map,Nat.zero_sub,Nat.min_zero,part]
theorem Pw(bs:BL)(i:Nat)(h:i<64):
  (fw bs i).set (i / 4) (UInt32.ofNat ((wi (fw bs i) (i / 4)).toNat*256)|||UInt32.ofNat (bs.getD i 0).toNat)=fw bs (i+1):=by
 rw[show wi (fw bs i) (i / 4)=part bs (i / 4) (i % 4) from by
  unfold fw;rw[LI _ _ _ qO];congr 1;omega]
 unfold fw;rw[Cw];refine lI fun t ht=>?_
 by_cases e:t=i / 4
 ·rw[if_pos e,show min 4 (i+1-4*t)=i % 4+1 by omega];subst e;rw[part,show 4*(i / 4)+i % 4=i by omega]
 ·rw[if_neg e];congr 1;omega
theorem iW(bs:BL):∀k,(sx bs k).length=64
 |0=>xK _ _
 |k+1=>by simp[sx,iW bs k]
theorem cY(l:List UInt32)(bs:BL):(mB l bs).length=8:=od _ _
theorem rl(bs:BL):∀k,(hx bs k).length=8
 |0=>rfl
 |_+1=>cY _ _
theorem Cx(bs cs:BL):∀k,64*k<=bs.length->hx (bs++cs) k=hx bs k
 |0,_=>rfl
 |k+1,h=>by
  rw[hx,hx,Cx bs cs k qO,List.drop_append_of_le_length qO,List.take_append_of_le_length (by rw[List.length_drop];omega)]
theorem fx(m:Nat):(be8 m).length=8:=by simp[be8]
theorem jg(n:Nat):(pad n).length=zn n+9:=by simp[pad,fx]
theorem TX(n:Nat):zn n<=63:=by unfold zn;split<;>omega
theorem si(bs:BL):(full bs).length=bs.length+(zn bs.length+9):=by rw[full,List.length_append,jg]
theorem AJ(l:List UInt32):(Cv l).length=32:=by simp[Cv]
theorem ai(bs:BL):(sha bs).length=32:=AJ _
theorem Fa(bs:BL)(k:Nat):(sx bs k).set (k+16) (nw (sx bs k) (k+16))=sx bs (k+1):=rfl
def ax(l:List UInt32)(s:St)(k:Nat):List UInt32:=tb (fun i=>if i<k then add (wi l i) (wi s.list i)else wi l i) 8
theorem Ht(l:List UInt32)(s:St)(k:Nat):(ax l s k).length=8:=od _ _
theorem Fb(l:List UInt32)(s:St)(h:l.length=8):ax l s 0=l:=by
 unfold ax;rw[<-h];exact(lI fun i _=>qS).trans (Ws l)
theorem Fc(l:List UInt32)(s:St)(k:Nat)(h:k<8):(ax l s k).set k (add (wi (ax l s k) k) (wi s.list k))=ax l s (k+1):=by
 rw[show wi (ax l s k) k=wi l k from by unfold ax;rw[LI _ _ _ h];simp];unfold ax;rw[Cw];refine lI fun t ht=>?_
 by_cases e:t=k
 ·subst e;simp
 ·rw[if_neg e];by_cases e2:t<k
  ·rw[if_pos e2,if_pos qO]
  ·rw[if_neg e2,if_neg qO]
theorem LK(l:List UInt32)(bs:BL):ax l (rs (St.of l) (sx bs 48) 64) 8=mB l bs:=by
 unfold ax mB;exact lI fun i hi=>by rw[if_pos hi]
structure Hok(p:BL)(st:List UInt32)(rs:BL):Prop where
 len:rs.length=64
 st:st=hx p (p.length / 64)
 rs:rs.take (p.length % 64)=p.drop (64*(p.length / 64))
theorem Hok.slen{p:BL}{st:List UInt32}{rs:BL}(h:Hok p st rs):st.length=8:=by rw[h.st,rl]
theorem Hok.zero(rs:BL)(h:rs.length=64):Hok [] begins rs:=⟨h,rfl,qS⟩
def over(rs:BL)(m:Nat)(r:BL):BL:=rs.take m++r++rs.drop (m+r.length)
theorem kL(rs:BL)(m:Nat)(r:BL)(h:m+r.length<=rs.length):(over rs m r).length=rs.length:=by simp[over];omega
theorem Hu(rs:BL)(m:Nat)(r:BL)(h:m+r.length<=rs.length):(over rs m r).take (m+r.length)=rs.take m++r:=by
 unfold over;exact List.take_left' (by simp;omega)
theorem Hok.more{p:BL}{st:List UInt32}{rs:BL}(h:Hok p st rs)(r:BL)(hr:p.length % 64+r.length<64):
  Hok (p++r) st (over rs (p.length % 64) r):=by
 have hl:=h.len;have hq:(p++r).length / 64=p.length / 64:=by rw[List.length_append];omega
 have hm:(p++r).length % 64=p.length % 64+r.length:=by rw[List.length_append];omega
 refine⟨by rw[kL _ _ _ qO,hl],?_,?_⟩
 ·rw[hq,Cx _ _ _ qO,h.st]
 ·rw[hm,hq,Hu _ _ _ qO,h.rs,List.drop_append_of_le_length qO]
theorem Hok.fill{p:BL}{st:List UInt32}{rs:BL}(h:Hok p st rs)(r:BL)(hr:p.length % 64+r.length=64):
  Hok (p++r) (mB st (over rs (p.length % 64) r)) (over rs (p.length % 64) r):=by
 have hl:=h.len;have hq:(p++r).length / 64=p.length / 64+1:=by rw[List.length_append];omega
 have hm:(p++r).length % 64=0:=by rw[List.length_append];omega
 have ho:over rs (p.length % 64) r=rs.take (p.length % 64)++r:=by
  unfold over;rw[hr,List.drop_eq_nil_of_le qO,List.append_nil]
 refine⟨by rw[kL _ _ _ qO,hl],?_,?_⟩
 ·rw[hq,hx,Cx _ _ _ qO,<-h.st];congr 1
  rw[ho,h.rs,List.drop_append_of_le_length qO,List.take_of_length_le (by simp;omega)]
 ·rw[hm,hq];rw[List.take_zero,List.drop_eq_nil_of_le (by rw[List.length_append];omega)]
theorem Hok.sha{p:BL}{st:List UInt32}{rs:BL}(h:Hok (full p) st rs):Cv st=sha p:=by rw[h.st];rfl
end Da
theorem mC(x:UInt32):x.toNat<4294967296:=UInt32.toNat_lt x
theorem LN(n:Nat)(h:n<4294967296):IntKind.u32.wrap (n:Int)=(n:Int):=by rw[IntKind.wrap_u32];omega
theorem u32_and(a b:UInt32):bits .and .u32 (a.toNat:Int) (b.toNat:Int)=((a&&&b).toNat:Int):=by
 rw[UInt32.toNat_and];exact(bits_nat .u32 32 qD (fun n h0 h1=>by rw[IntKind.wrap_u32];omega) _ _ (mC a) (mC b)).1
theorem u32_or(a b:UInt32):bits .or .u32 (a.toNat:Int) (b.toNat:Int)=((a|||b).toNat:Int):=by
 rw[UInt32.toNat_or];exact(bits_nat .u32 32 qD (fun n h0 h1=>by rw[IntKind.wrap_u32];omega) _ _ (mC a) (mC b)).2
theorem u32_xor(a b:UInt32):bits .xor .u32 (a.toNat:Int) (b.toNat:Int)=((a^^^b).toNat:Int):=by
 have ha:a.toNat % 2^IntKind.u32.bits=a.toNat:=Nat.mod_eq_of_lt (mC a);have hb:b.toNat % 2^IntKind.u32.bits=b.toNat:=Nat.mod_eq_of_lt (mC b);simp only[bits,BitVec.ofInt_natCast,BitVec.toNat_xor,BitVec.toNat_ofNat,ha,hb];rw[LN _ (by rw[<-UInt32.toNat_xor];exact mC _),UInt32.toNat_xor]
theorem ya(a:UInt32):bits .xor .u32 IntKind.u32.max (a.toNat:Int)=((~~~a).toNat:Int):=by
 rw[show IntKind.u32.max=(((4294967295:UInt32).toNat:Nat):Int) from rfl,u32_xor];rfl
theorem Pz(a b:UInt32):IntKind.u32.wrap ((a.toNat:Int)+(b.toNat:Int))=((Da.add a b).toNat:Int):=by
 rw[Da.add,UInt32.toNat_add,IntKind.wrap_u32];omega
theorem gy (a b:UInt32):((a.toNat:Int)+(b.toNat:Int)) % 4294967296=((Da.add a b).toNat:Int):=by rw[<-Pz,IntKind.wrap_u32]
theorem QA(x n:Nat):IntKind.u32.wrap ((x:Int)*2^n)=((UInt32.ofNat (x*2^n)).toNat:Int):=by
 rw[UInt32.toNat_ofNat',IntKind.wrap_u32];rw[Int.natCast_emod,Int.natCast_mul,Int.natCast_pow];rfl
theorem uL (x n:Nat):((x:Int)*2^n) % 4294967296=((UInt32.ofNat (x*2^n)).toNat:Int):=by rw[<-QA,IntKind.wrap_u32]
theorem qb(x:UInt32)(n:Nat):((x.toNat:Int) / 2^n)=((Da.shr x n).toNat:Int):=by
 have h:x.toNat / 2^n<4294967296:=Nat.lt_of_le_of_lt (Nat.div_le_self _ _) (mC x);rw[Da.shr,UInt32.toNat_ofNat',Nat.mod_eq_of_lt h];push_cast;rfl
theorem Fe(x:UInt32)(n:Nat):Da.eH x n=Da.shr x n|||UInt32.ofNat (x.toNat*2^(32-n)):=rfl
theorem Cy(x y z:UInt32)(w:World):Calls Tryz.prog 151 #[.int .u32 (x.toNat:Int),.int .u32 (y.toNat:Int),.int .u32 (z.toNat:Int)] w fun e w'=>e=.returned (.int .u32 ((Da.ch x y z).toNat:Int))/\w'=w:=by
 go_enter Tryz.func151,Tryz.ntmps151
 go_wp2_with fail
 case inr=>
 go_ret;exact⟨by rw[Da.ch,<-u32_xor,<-u32_and,<-u32_and,<-ya];rfl,rfl⟩
theorem yb(x y z:UInt32)(w:World):Calls Tryz.prog 152 #[.int .u32 (x.toNat:Int),.int .u32 (y.toNat:Int),.int .u32 (z.toNat:Int)] w fun e w'=>e=.returned (.int .u32 ((Da.mj x y z).toNat:Int))/\w'=w:=by
 go_enter Tryz.func152,Tryz.ntmps152
 go_wp2_with fail;go_ret;exact⟨by rw[Da.mj,<-u32_xor,<-u32_xor,<-u32_and,<-u32_and,<-u32_and];rfl,rfl⟩
theorem QB(x:UInt32)(n:Nat)(h1:1<=n)(h2:n<=31)(w:World):Calls Tryz.prog 213 #[.int .u32 (x.toNat:Int),.int .i64 (-(n:Int))] w fun e w'=>e=.returned (.int .u32 ((Da.eH x n).toNat:Int))/\w'=w:=by
 have HB:Hid (bits .and .u64 (IntKind.u64.wrap (-(n:Int))) 31=((32-n:Nat):Int)):=Lh (by
  have e:IntKind.u64.wrap (-(n:Int))=((18446744073709551616-n:Nat):Int):=by rw[IntKind.wrap_u64];omega
  rw[e,show(31:Int)=((31:Nat):Int) from rfl,(bits_nat .u64 64 qD (fun n h0 h1=>by rw[IntKind.wrap_u64];omega) _ _ qO qD).1,
   show(31:Nat)=2^5-1 from rfl,Nat.and_two_pow_sub_one_eq_mod]
  omega)
 go_enter Tryz.func213,Tryz.ntmps213
 go_wp2_with (first|rw[HB.out])
 go_ret;refine⟨?_,rfl⟩;rw[Fe,UInt32.or_comm,<-u32_or,<-qb,<-uL,show 32-(32-n)=n by omega];rfl
theorem uM(x:UInt32)(n:Nat)(h1:1<=n)(h2:n<=31)(w:World):Calls Tryz.prog 186 #[.int .u32 (x.toNat:Int),.int .i64 (n:Int)] w fun e w'=>e=.returned (.int .u32 ((Da.eH x n).toNat:Int))/\w'=w:=by
 go_enter Tryz.func186,Tryz.ntmps186
 go_wp2_with (refine(QB x n h1 h2 _).mono ?_;rintro e w' ⟨rfl,rfl⟩)
 go_ret;exact⟨rfl,rfl⟩
theorem xL(x:UInt32)(a b c:Nat)(ha:1<=a/\a<=31)(hb:1<=b/\b<=31)(hc:1<=c/\c<=31)(w:World):
  Calls Tryz.prog 150 #[.int .u32 (x.toNat:Int),.int .i64 (a:Int),.int .i64 (b:Int),.int .i64 (c:Int)] w fun e w'=>e=.returned (.int .u32 ((Da.nL x a b c).toNat:Int))/\w'=w:=by
 go_enter Tryz.func150,Tryz.ntmps150
 go_wp2_with (refine(uM _ _ qO qO _).mono ?_;rintro e w' ⟨rfl,rfl⟩)
 go_ret;exact⟨by rw[Da.nL,<-u32_xor,<-u32_xor];rfl,rfl⟩
theorem xM(x:UInt32)(a b c:Nat)(ha:1<=a/\a<=31)(hb:1<=b/\b<=31)(hc:1<=c/\c<=31)(w:World):
  Calls Tryz.prog 185 #[.int .u32 (x.toNat:Int),.int .i64 (a:Int),.int .i64 (b:Int),.int .i64 (c:Int)] w fun e w'=>e=.returned (.int .u32 ((Da.small x a b c).toNat:Int))/\Kit.Dn w w':=by
 go_enter Tryz.func185,Tryz.ntmps185
 go_wp2_with fail;go_quiet ((exact Calls.quiet_of_same (uM _ _ qO qO _)))
 go_wp2_with fail;go_ret;exact⟨by rw[Da.small,<-u32_xor,<-u32_xor,<-qb];rfl,⟨_,rfl⟩⟩
def ar(z:List UInt32):List Value:=z.map fun x=>.int .u32 (x.toNat:Int)
@[simp] theorem AK(z:List UInt32):(ar z).length=z.length:=by simp[ar]
theorem dS(z:List UInt32)(i:Nat)(h:i<z.length):(ar z)[i]? =some (.int .u32 ((Da.wi z i).toNat:Int)):=by
 simp[ar,Da.wi,h]
theorem jB(z:List UInt32):∀u∈ar z,u.oneCell'=true:=by
 intro u hu;obtain⟨x,_,rfl⟩:=List.mem_map.1 hu;rfl
theorem lJ(z:List UInt32)(i:Nat)(x:UInt32):(ar z).set i (.int .u32 (x.toNat:Int))=ar (z.set i x):=by simp[ar,List.map_set]
theorem dP (z:BL)(i:Nat)(x:UInt8):(bytesV z).set i (.int .u8 (x.toNat:Int))=bytesV (z.set i x):=by simp[bytesV,List.map_set]
theorem pb(a b:BL):bytesV (a++b)=bytesV a++bytesV b:=by simp[bytesV]
def Arr(W:World)(b:Nat)(T:TypeId)(xs:List Value):Prop:=W.heap[b]? =some (.cells xs.toArray T (0,0))
theorem Arr.lt{W:World}{b:Nat}{T:TypeId}{xs:List Value}(h:Arr W b T xs):b<W.heap.size:=(aE.1 h).1
theorem Arr.cell{W:World}{b:Nat}{T:TypeId}{xs:List Value}(h:Arr W b T xs)(i:Nat):W.cell? ⟨b,i,none⟩=xs[i]? :=by
 rw[cell_of_row W b i xs.toArray T (0,0) h,List.getElem?_toArray]
theorem Arr.frozen{W:World}{b:Nat}{T:TypeId}{xs:List Value}(h:Arr W b T xs)(i:Nat):W.frozen? ⟨b,i,none⟩=false:=by
 unfold World.frozen?;rw[show W.heap[b]? =_ from h];rfl
theorem Arr.later{W W':World}{B b:Nat}{T:TypeId}{xs:List Value}(h:Arr W b T xs)(hb:Below B W W')(hlt:b<B):Arr W' b T xs:=by
 unfold Arr;rw[hb.block b hlt];exact h
theorem Arr.drew{W:World}{b:Nat}{T:TypeId}{xs:List Value}(h:Arr W b T xs):Arr W.drew b T xs:=h
theorem Arr.drewN{W:World}{b:Nat}{T:TypeId}{xs:List Value}(h:Arr W b T xs)(n:Nat):Arr (W.drewN n) b T xs:=h
theorem Arr.made(W:World)(T:TypeId)(xs:List Value):Arr (W.alloc (.cells xs.toArray T)) W.heap.size T xs:=World.alloc_heap_new _ _
theorem Arr.alloc{W:World}{b:Nat}{T:TypeId}{xs:List Value}(h:Arr W b T xs)(o:Obj):Arr (W.alloc o) b T xs:=
 h.later (qB.alloc qN o) h.lt
theorem Arr.set{W:World}{b:Nat}{T:TypeId}{xs:List Value}(h:Arr W b T xs)(i:Nat)(v:Value):Arr (W.setCell ⟨b,i,none⟩ v) b T (xs.set i v):=by
 unfold Arr;rw[setCell_eq_setRow W b i _ _ _ v h,setRow_heap _ _ _ _ _ _ h];simp
theorem Arr.ne{W:World}{b c:Nat}{T U:TypeId}{xs ys:List Value}(h:Arr W b T xs)(k:Arr W c U ys)(hn:b≠c)(i:Nat)(v:Value):Arr (W.setCell ⟨c,i,none⟩ v) b T xs:=by
 unfold Arr;rw[setCell_eq_setRow W c i _ _ _ v k,setRow_other _ _ _ _ hn];exact h
theorem aA{n g:Nat}{w:World}{cs:Array Value}(h:n<=g):Below n w (w.setRow g cs):=
 ⟨rfl,rfl,rfl,by simp[World.setRow],fun k hk=>setRow_other w g k cs qO⟩
theorem Arr.below{w W:World}{B c:Nat}{U:TypeId}{ys:List Value}(k:Arr W c U ys)(hb:Below B w W)(hc:B<=c)(i:Nat)(v:Value):Below B w (W.setCell ⟨c,i,none⟩ v):=by
 rw[setCell_eq_setRow W c i _ _ _ v k];exact hb.trans (aA hc)
theorem Arr.size{W:World}{c:Nat}{U:TypeId}{ys:List Value}(k:Arr W c U ys)(i:Nat)(v:Value):(W.setCell ⟨c,i,none⟩ v).heap.size=W.heap.size:=by
 rw[setCell_eq_setRow W c i _ _ _ v k];simp[World.setRow]
def laid(xs:List Value)(o:Nat)(vs:List Value):List Value:=xs.take o++vs++xs.drop (o+vs.length)
theorem Hy(xs:List Value)(o:Nat)(v:Value)(vs:List Value)(h:o<xs.length):laid (xs.set o v) (o+1) vs=laid xs o (v::vs):=by
 unfold laid;rw[List.take_add_one,List.getElem?_set_self h,List.take_set_of_le qN,List.drop_set_of_lt qO];simp only[Option.toList_some,List.append_assoc,List.cons_append,List.nil_append,List.length_cons];rw[show o+1+vs.length=o+(vs.length+1) by omega]
theorem Arr.sets{b:Nat}{T:TypeId}:∀(vs:List Value)(o:Nat){W:World}{xs:List Value},Arr W b T xs->o+vs.length<=xs.length->Arr (W.setCells b o vs) b T (laid xs o vs)
 |[],o,W,xs,h,hl=>by simpa[laid,World.setCells]using h
 |v::vs,o,W,xs,h,hl=>by
  rw[World.setCells,<-Hy _ _ _ _ (by simp at hl;omega)];exact Arr.sets vs (o+1) (h.set o v) (by simp at hl⊢;omega)
theorem Arr.range{W:World}{b:Nat}{T:TypeId}{xs:List Value}(h:Arr W b T xs)(o:Nat)(cs:List Value)(hc:∀j v,cs[j]? =some v->xs[o+j]? =some v):W.rangeAt b o cs:=fun j v hv=>by
 rw[h.cell];exact hc j v hv
theorem Arr.there{W:World}{b:Nat}{T:TypeId}{xs:List Value}(h:Arr W b T xs)(o n:Nat)(hl:o+n<=xs.length):W.there b o n:=fun j hj=>by
 refine⟨?_,h.frozen _⟩;rw[h.cell,List.getElem?_eq_getElem qO];rfl
theorem fy{P:Program}{ops:Array Oper}{rest:List Oper}{op:Oper}{a:Act}{w:World}{Q:Exit->Act->World->Prop}(hgd:op.guard=none)(ty:TypeId)(x y:Operand)(ho:op.op=.store ty x y)(hdst:op.dst=none)
  (b o:Nat) (cells:Array Value) (hx:a.eval x=.pointer (some ⟨b,o,none⟩)) (hy:a.eval y=.agg cells)
  (ht:w.there b o cells.size) (hi:(P.info? ty).map (·.size)=some cells.size) (h1:cells.all (·.oneCell')=true)
  (h:wpList P ops Q rest a (w.setCells b o cells.toList)):wpList P ops Q (op::rest) a w:=
 wpList_store_mid hgd ty x y ho b o cells hx hy ht hi h1 (by rw[hdst];exact h)
theorem et{P:Program}(T e:TypeId)(n:Nat)(C:Array Value)(k:Nat)(v:Value)(hT:P.underlying T=some (.array n e))(hz:(P.info? e).map (·.size)=some 1)(hag:∀W,(isAgg e).run P W=.ok false W)(hk:k<n)(hv:C[k]? =some v)(W:World):
  (Instr.index T (.agg C) (.int .i64 (k:Int))).run P W=.ok v W:=by
 have h1:(0:Int)<=(k:Int)/\(k:Int)<(n:Int):=qO;cases hq:P.info? e with
 |none=>simp[hq]at hz
 |some i=>
  have hs:i.size=1:=by simpa[hq]using hz
  simp[Instr.index,run_underlying hT,asIntOf,h1,go_sem,sizeOf,typeInfo,hq,hs,part,hag,Sem.run_bind,hv];exact fun h=>absurd h qO
structure Var(W:World)(n:Nat)(xs:List UInt32):Prop where
 lt:n<W.heap.size
 at_:W.rangeAt n 0 (ar xs)
theorem Var.later{W W':World}{n:Nat}{xs:List UInt32}(h:Var W n xs)(hb:Below W.heap.size W W'):Var W' n xs:=
 ⟨Nat.lt_of_lt_of_le h.lt hb.size,fun j v hv=>by rw[hb.cell (p:=⟨n,0+j,none⟩) h.lt];exact h.at_ j v hv⟩
theorem Var.cell{W:World}{n:Nat}{xs:List UInt32}(h:Var W n xs)(i:Nat)(hi:i<xs.length):W.cell? ⟨n,i,none⟩=some (.int .u32 ((Da.wi xs i).toNat:Int)):=by
 have:=h.at_ i _ (dS xs i hi);simpa using this
def zw:List Value:=ar (List.replicate 64 0)
theorem AM:(Tryz.prog.info? 121).map (·.size)=some 64:=qK
theorem rm: Tryz.prog.underlying 121=some (.array 64 119):=qK
theorem AN(w:World):Sem.run Tryz.prog (zeroValue 121) w=.ok (.agg (ar (List.replicate 64 0)).toArray) w:=qK
theorem nM:(Tryz.prog.info? 177).map (·.size)=some 64:=qK
theorem j6: Tryz.prog.underlying 177=some (.array 64 5):=qK
def Sc1(bs:BL)(g:Nat)(w:World)(i:Value)(wr:World):Prop:=
 ∃k:Nat,k<=64/\i=.int .i64 k/\Arr wr (g+1+1) 121 (ar (Da.fw bs k))/\Arr wr (g+1) 121 zw/\Below w.heap.size w wr
def Sc2(bs:BL)(g:Nat)(w:World)(i:Value)(wr:World):Prop:=
 ∃t:Nat,16<=t/\t<=64/\i=.int .i64 (t:Int)/\Arr wr (g+1+1) 121 (ar (Da.sx bs (t-16)))/\Arr wr (g+1) 121 zw/\Below w.heap.size w wr
theorem AO(Z:Array Value)(hZ:Z=(ar (List.replicate 64 0)).toArray)(hzs:∀w,Sem.run Tryz.prog (zeroValue 121) w=.ok (.agg Z) w)(bs:BL)(hb:bs.length=64)(w:World):
  Calls Tryz.prog 149 #[.agg (bytesV bs).toArray] w fun e w'=>e=.returned (.agg (ar (Da.sx bs 48)).toArray)/\Below w.heap.size w w':=by
 obtain⟨C,hC⟩:=qM ((bytesV bs).toArray);rw[hC];have HC:=Lh hC;have HZ:=Lh hZ;clear hC hZ;obtain⟨g,hg⟩:=qM w.heap.size;obtain⟨w3,hw3⟩:=qM (((w.alloc (Obj.cells C 177)).alloc (Obj.cells Z 121)).alloc (Obj.cells Z 121));have hA1:Arr (w.alloc (Obj.cells C 177)) g 177 (bytesV bs):=by rw[<-HC.out,<-hg];exact Arr.made _ _ _
 have hA2:Arr w3 g 177 (bytesV bs):=by rw[<-hw3];exact(hA1.alloc _).alloc _
 have hs1:(w.alloc (Obj.cells C 177)).heap.size=g+1:=by rw[World.size_alloc,hg]
 have hs2:((w.alloc (Obj.cells C 177)).alloc (Obj.cells Z 121)).heap.size=g+1+1:=by rw[World.size_alloc,hs1]
 have hR:Arr w3 (g+1) 121 zw:=by rw[<-hw3,HZ.out,<-hs1];exact(Arr.made _ _ _).alloc _
 have hW:Arr w3 (g+1+1) 121 zw:=by rw[<-hw3];rw[HZ.out]at hs2⊢;rw[<-hs2];exact Arr.made _ _ _
 have hB:Below w.heap.size w w3:=by
  rw[<-hw3];exact((qB.alloc qN _).alloc (by rw[World.size_alloc];omega) _).alloc (by rw[World.size_alloc,World.size_alloc];omega) _
 have HL:Hid ((Tryz.prog.info? 177).map (·.size)=some C.size):=Lh (by rw[nM,<-HC.out];simp[hb]);have HIN:Hid (w3.heap[g]? =some (.cells C 177 (0,0))):=Lh (by rw[<-HC.out];exact hA2);have HW3:=Lh hw3;have HR:=Lh hR;have HW:=Lh hW;have HB:=Lh hB;have HG:=Lh hg;clear hw3 hA1 hA2 hs1 hs2 hR hW hB;go_enter Tryz.func149,Tryz.ntmps149
 go_wp2_with (first|rw[HW3.out]|refine wpList_load_row rfl 177 (.tmp 1) rfl g rfl 177 C (0,0) _ HIN.out j6 rfl HL.out ?_)
 clear HIN HZ;go_loopw [8] (fun i wr=>Sc1 bs g w i wr) (fun i _=>64-(intOf i).toNat)
 case atStart=>exact⟨0,Nat.zero_le _,rfl,by rw[Da.Pv];exact HW.out,HR.out,HB.out⟩
 case round=>
  rename World=>W1
  obtain⟨k,hk,rfl,hW1,hR1,hB1⟩:=hrel;by_cases hlt:k<64
  ·have hd1:decide ((k:Int)<64)=true:=by simpa using (by omega:(k:Int)<64)
   obtain⟨b,hb'⟩:=qM (bs.getD k 0);have hIX:∀W,(Instr.index 177 (.agg C) (.int .i64 (k:Int))).run Tryz.prog W=.ok (.int .u8 (b.toNat:Int)) W:=et _ _ 64 C k _ j6 qK (fun W=>qK) hlt (by rw[<-HC.out,List.getElem?_toArray,<-hb'];exact aB bs k qO);obtain⟨x,hx⟩:=qM (Da.wi (Da.fw bs k) (k / 4));have hce:W1.cell? ⟨g+1+1,k / 4,none⟩=some (.int .u32 (x.toNat:Int)):=by rw[hW1.cell,<-hx];exact dS _ _ (by rw[Da.xK];omega)
   have hfr:=hW1.frozen (k / 4);have HST:=Lh (Da.Pw bs k hlt);rw[hx,hb']at HST;have HW1:=Lh hW1;have HR1:=Lh hR1;have HB1:=Lh hB1;have hx1:=mC x;have hb1:=UInt8.toNat_lt b;clear hW1 hR1 hB1 hx hb';have HV:Hid (bits .or .u32 ((x.toNat:Int)*256 % 4294967296) (b.toNat:Int)=((UInt32.ofNat (x.toNat*256)|||UInt32.ofNat b.toNat).toNat:Int)):=Lh (by
    rw[<-u32_or,show((UInt32.ofNat b.toNat).toNat:Int)=(b.toNat:Int) from by rw[UInt32.toNat_ofNat',Nat.mod_eq_of_lt qO],<-uL x.toNat 8];rfl)
   go_wp2_with fail;refine⟨⟨k+1,qO,by go_num,?_,?_,?_⟩,by simp[intOf];omega⟩
   ·rw[HV.out,<-HST.out,<-lJ];exact HW1.out.set _ _
   ·exact HR1.out.ne HW1.out qO _ _
   ·exact HW1.out.below HB1.out qO _ _
  ·obtain rfl:k=64:=qO;rw[show(((64:Nat):Int))=64 from rfl];have HW1:=Lh hW1;have HR1:=Lh hR1;have HB1:=Lh hB1;clear hW1 hR1 hB1 HW HR HB HW3 w3;go_wp2_with fail;go_loopw [6] (fun i wr=>Sc2 bs g w i wr) (fun i _=>64-(intOf i).toNat)
   case atStart=>exact⟨16,Nat.le_refl _,qO,rfl,HW1.out,HR1.out,HB1.out⟩
   case round=>
    rename World=>W2
    obtain⟨t,ht1,ht2,rfl,hW2,hR2,hB2⟩:=hrel;by_cases hlt:t<64
    ·have hd1:decide ((t:Int)<64)=true:=by simpa using (by omega:(t:Int)<64)
     have hce:∀j,j<64->W2.cell? ⟨g+1+1,j,none⟩=some (.int .u32 ((Da.wi (Da.sx bs (t-16)) j).toNat:Int)):=fun j hj=>by
      rw[hW2.cell];exact dS _ _ (by rw[Da.iW];omega)
     have HST:Hid ((Da.sx bs (t-16)).set t (Da.nw (Da.sx bs (t-16)) t)=Da.sx bs (t+1-16)):=Lh (by
      have:=Da.Fa bs (t-16);rw[show t-16+16=t by omega]at this;rw[this];congr 1;omega)
     have hfr:=hW2.frozen t;have HW2:=Lh hW2;have HR2:=Lh hR2;have HB2:=Lh hB2;have c1:=hce (t-2) qO;have c2:=hce (t-7) qO;have c3:=hce (t-15) qO;have c4:=hce (t-16) qO;have c5:=hce t qO;have HNW:Hid (Da.nw (Da.sx bs (t-16)) t=Da.add (Da.add (Da.add (Da.small (Da.wi (Da.sx bs (t-16)) (t-2)) 17 19 10) (Da.wi (Da.sx bs (t-16)) (t-7))) (Da.small (Da.wi (Da.sx bs (t-16)) (t-15)) 7 18 3)) (Da.wi (Da.sx bs (t-16)) (t-16))):=Lh rfl;generalize Da.wi (Da.sx bs (t-16)) (t-2)=x1 at c1 HNW;generalize Da.wi (Da.sx bs (t-16)) (t-7)=x2 at c2 HNW;generalize Da.wi (Da.sx bs (t-16)) (t-15)=x3 at c3 HNW;generalize Da.wi (Da.sx bs (t-16)) (t-16)=x4 at c4 HNW;have S1:Hid (∀n,Calls Tryz.prog 185 #[.int .u32 (x1.toNat:Int),.int .i64 17,.int .i64 19,.int .i64 10] (W2.drewN n) fun e w'=>e=.returned (.int .u32 ((Da.small x1 17 19 10).toNat:Int))/\∃m,w'=(W2.drewN n).drewN m):=Lh fun n=>xM x1 17 19 10 qO qO qO _
     have S3:Hid (∀n,Calls Tryz.prog 185 #[.int .u32 (x3.toNat:Int),.int .i64 7,.int .i64 18,.int .i64 3] (W2.drewN n) fun e w'=>e=.returned (.int .u32 ((Da.small x3 7 18 3).toNat:Int))/\∃m,w'=(W2.drewN n).drewN m):=Lh fun n=>xM x3 7 18 3 qO qO qO _
     generalize Da.small x1 17 19 10=y1 at S1 HNW;generalize Da.small x3 7 18 3=y3 at S3 HNW;have e1:IntKind.i64.wrap ((t:Int)-2)=((t-2:Nat):Int):=by rw[IntKind.wrap_i64];omega
     have e2:IntKind.i64.wrap ((t:Int)-7)=((t-7:Nat):Int):=by rw[IntKind.wrap_i64];omega
     have e3:IntKind.i64.wrap ((t:Int)-15)=((t-15:Nat):Int):=by rw[IntKind.wrap_i64];omega
     have e4:IntKind.i64.wrap ((t:Int)-16)=((t-16:Nat):Int):=by rw[IntKind.wrap_i64];omega
     have l1:((t-2:Nat):Int)<64:=qO;have l2:((t-7:Nat):Int)<64:=qO;have l3:((t-15:Nat):Int)<64:=qO;have l4:((t-16:Nat):Int)<64:=qO;have l5:(t:Int)<64:=qO;clear hce hW2 hR2 hB2;go_wp2_with fail;refine Qt.di 23 qK qK ?_;simp only[List.take_succ_cons,List.take_zero,List.drop_succ_cons,List.drop_zero];repeat (quiet_step ((first|with_reducible exact Calls.quiet_of (S1.out _)|with_reducible exact Calls.quiet_of (S3.out _))))
     refine wpQuiet_nil ?_;intro _ hw';obtain⟨nq,hw''⟩:=hw';subst hw'';go_wp2_with fail;go_roundw
     case rel=>
      refine⟨t+1,qO,qO,by go_num,?_,?_,?_⟩
      ·rw[show((y1.toNat:Int)+x2.toNat+y3.toNat+x4.toNat) % 4294967296=((Da.add (Da.add (Da.add y1 x2) y3) x4).toNat:Int) from by simp only[Da.add,UInt32.toNat_add];omega,<-HNW.out,<-HST.out,<-lJ];exact(HW2.out.drewN nq).set _ _
      ·exact(HR2.out.drewN nq).ne (HW2.out.drewN nq) qO _ _
      ·exact(HW2.out.drewN nq).below (Kit.dn HB2.out nq) qO _ _
     case measure=>simp[intOf];omega
    ·obtain rfl:t=64:=qO;rw[show(((64:Nat):Int))=64 from rfl];obtain⟨R,hR⟩:=qM ((ar (Da.sx bs 48)).toArray);have HRS:Hid ((Tryz.prog.info? 121).map (·.size)=some R.size):=Lh (by rw[AM,<-hR];simp[Da.iW]);have HRO:Hid (R.all (·.oneCell')=true):=Lh (by rw[<-hR];exact all_oneCell_toArray (jB _));have HRZ:Hid (zw.toArray.size=R.size):=Lh (by rw[<-hR];simp[zw,Da.iW]);have HL1:Hid (W2.heap[g+1+1]? =some (.cells R 121 (0,0))):=Lh (by rw[<-hR];exact hW2);have HL2:Hid (W2.heap[g+1]? =some (.cells zw.toArray 121 (0,0))):=Lh hR2;have HGW:Hid ((W2.setRow (g+1) R).heap[g+1]? =some (.cells R 121 (0,0))):=Lh (setRow_heap _ _ _ _ _ _ hR2);have HBW:Hid (Below w.heap.size w (W2.setRow (g+1) R)):=Lh (hB2.trans (aA qO));have HRE:=Lh hR;clear hR hW2 hR2 hB2;go_wp2_with (first|refine wpList_load_row rfl 121 (.tmp 3) rfl (g+1+1) rfl 121 R (0,0) _ HL1.out rm rfl HRS.out ?_|refine wpList_store_row rfl 121 (.tmp 2) (.tmp 51) rfl (g+1) R rfl rfl 121 zw.toArray HL2.out HRS.out HRZ.out HRO.out ?_)
     refine bodyPost_ret (results_cell_row rfl _ _ (g+1) 121 R (0,0) _ rfl HGW.out rm rfl HRS.out) rfl ?_;exact⟨by rw[HRE.out],HBW.out⟩
theorem yc(bs:BL)(hb:bs.length=64)(w:World):
  Calls Tryz.prog 149 #[.agg (bytesV bs).toArray] w fun e w'=>e=.returned (.agg (ar (Da.sx bs 48)).toArray)/\Below w.heap.size w w':=AO _ rfl AN bs hb w
theorem iA:(Tryz.prog.info? 120).map (·.size)=some 8:=qK
theorem fK: Tryz.prog.underlying 120=some (.array 8 119):=qK
theorem Ff(w:World):Sem.run Tryz.prog (zeroValue 120) w=.ok (.agg (ar (List.replicate 8 0)).toArray) w:=qK
theorem bN{P:Program}{ops:Array Oper}{rest:List Oper}{o:Oper}{a:Act}{w:World}{Q:Exit->Act->World->Prop}(hg:o.guard=none)(T:TypeId)(parts:Array (Nat×Operand))(ho:o.op=.build T parts)
  (L:List (Nat×Value)) (hL:(parts.map fun(i,x)=>(i,a.eval x)).toList=L) (B:Array Value) (hb:P.built T L=some B)
  (h:wpList P ops Q rest (a.put o.dst (.agg B)) w):wpList P ops Q (o::rest) a w:=by
 refine wpList_build hg T parts ho ?_ ?_
 ·rw[hL,hb];rfl
 ·rw[hL,hb];exact h
def Sh1(st:List UInt32)(ws:List UInt32)(g:Nat)(w:World)(a b c d e f gg h i:Value)(wr:World):Prop:=
 ∃(k:Nat)(s:Da.St),k<=64/\i=.int .i64 k/\Da.rs (Da.St.of st) ws k=s/\a=.int .u32 (s.a.toNat:Int)/\b=.int .u32 (s.b.toNat:Int)/\c=.int .u32 (s.c.toNat:Int)/\d=.int .u32 (s.d.toNat:Int)/\
  e=.int .u32 (s.e.toNat:Int)/\f=.int .u32 (s.f.toNat:Int)/\gg=.int .u32 (s.g.toNat:Int)/\h=.int .u32 (s.h.toNat:Int)/\
  Arr wr g 120 (ar st)/\Arr wr (g+1+1) 120 (ar (List.replicate 8 0))/\Below w.heap.size w wr
def Sh2(st:List UInt32)(s:Da.St)(g:Nat)(w:World)(i:Value)(wr:World):Prop:=
 ∃k:Nat,k<=8/\i=.int .i64 k/\Arr wr g 120 (ar (Da.ax st s k))/\Arr wr (g+1+1) 120 (ar (List.replicate 8 0))/\Below w.heap.size w wr
theorem Hz(Z:Array Value)(hZ:Z=(ar (List.replicate 8 0)).toArray)(hzs:∀w,Sem.run Tryz.prog (zeroValue 120) w=.ok (.agg Z) w)(st:List UInt32)(bs:BL)(hst:st.length=8)(hb:bs.length=64)(w:World)(hV:Var w 23 Da.cubes):
  Calls Tryz.prog 108 #[.agg (ar st).toArray,.agg (bytesV bs).toArray] w fun e w'=>e=.returned (.agg (ar (Da.mB st bs)).toArray)/\Below w.heap.size w w':=by
 obtain⟨C,hC⟩:=qM ((bytesV bs).toArray);obtain⟨D,hD⟩:=qM ((ar st).toArray);rw[hC,hD];have HC:=Lh hC;have HD:=Lh hD;have HZ:=Lh hZ;clear hC hD hZ;obtain⟨g,hg⟩:=qM w.heap.size;obtain⟨w3,hw3⟩:=qM (((w.alloc (Obj.cells D 120)).alloc (Obj.cells C 177)).alloc (Obj.cells Z 120));have hA1:Arr (w.alloc (Obj.cells D 120)) g 120 (ar st):=by rw[<-HD.out,<-hg];exact Arr.made _ _ _
 have hA2:Arr w3 g 120 (ar st):=by rw[<-hw3];exact(hA1.alloc _).alloc _
 have hs1:(w.alloc (Obj.cells D 120)).heap.size=g+1:=by rw[World.size_alloc,hg]
 have hs2:((w.alloc (Obj.cells D 120)).alloc (Obj.cells C 177)).heap.size=g+1+1:=by rw[World.size_alloc,hs1]
 have hA3:Arr w3 (g+1) 177 (bytesV bs):=by rw[<-hw3,<-HC.out,<-hs1];exact(Arr.made _ _ _).alloc _
 have hR:Arr w3 (g+1+1) 120 (ar (List.replicate 8 0)):=by rw[<-hw3,HZ.out,<-hs2];exact Arr.made _ _ _
 have hB:Below w.heap.size w w3:=by
  rw[<-hw3];exact((qB.alloc qN _).alloc (by rw[World.size_alloc];omega) _).alloc (by rw[World.size_alloc,World.size_alloc];omega) _
 have HL:Hid ((Tryz.prog.info? 177).map (·.size)=some C.size):=Lh (by rw[nM,<-HC.out];simp[hb]);have HIN:Hid (∀n,(w3.drewN n).heap[g+1]? =some (.cells C 177 (0,0))):=Lh (fun n=>by rw[<-HC.out];exact hA3);have c:∀j,j<8->w3.cell? ⟨g,j,none⟩=some (.int .u32 ((Da.wi st j).toNat:Int)):=fun j hj=>by
  rw[hA2.cell];exact dS _ _ qO
 have c0:=c 0 qD;have c1:=c 1 qD;have c2:=c 2 qD;have c3:=c 3 qD;have c4:=c 4 qD;have c5:=c 5 qD;have c6:=c 6 qD;have c7:=c 7 qD;have HW3:=Lh hw3;have HA:=Lh hA2;have HR:=Lh hR;have HB:=Lh hB;have HG:=Lh hg;have HV:=Lh hV;obtain⟨ws,hws⟩:=qM (Da.sx bs 48);have hwl:ws.length=64:=by rw[<-hws,Da.iW]
 obtain⟨R,hRE⟩:=qM ((ar ws).toArray);have SC:Hid (∀v,Calls Tryz.prog 149 #[.agg C] v fun e w'=>e=.returned (.agg R)/\Below v.heap.size v w'):=Lh fun v=>by rw[<-HC.out,<-hRE,<-hws];exact yc bs hb v
 have HRE:=Lh hRE;have HWS:=Lh hws;have HWL:=Lh hwl;clear hw3 hA1 hA2 hs1 hs2 hR hB hA3 hV c hRE hws hwl;go_enter Tryz.func108,Tryz.ntmps108
 go_wp2_with fail;rw[HW3.out];go_quiet (fail)
 go_wp2_with fail;rename Nat=>n1
 go_quiet (fail)
 rw[World.drewN_drewN];go_wp2_with (first|(refine wpList_load_row rfl 177 (.tmp 3) rfl (g+1) rfl 177 C (0,0) _ (HIN.out _) j6 rfl HL.out ?_)|(refine(SC.out _).mono ?_;rintro e w4 ⟨rfl,hb4⟩))
 have HA4:Hid (Arr w4 g 120 (ar st)):=Lh ((HA.out.drewN (n1+nq)).later hb4 (HA.out.drewN (n1+nq)).lt);have HR4:Hid (Arr w4 (g+1+1) 120 (ar (List.replicate 8 0))):=Lh ((HR.out.drewN (n1+nq)).later hb4 (HR.out.drewN (n1+nq)).lt);have HB4:Hid (Below w.heap.size w w4):=Lh (Ks (Kit.dn HB.out (n1+nq)) hb4);clear hb4 c0 c1 c2 c3 c4 c5 c6 c7 SC HIN;go_loopw [5,6,7,8,9,10,11,12,37] (fun a b c d e f gg h i wr=>Sh1 st ws g w a b c d e f gg h i wr) (fun _ _ _ _ _ _ _ _ i _=>64-(intOf i).toNat)
 case atStart=>exact⟨0,_,Nat.zero_le _,rfl,rfl,rfl,rfl,rfl,rfl,rfl,rfl,rfl,rfl,HA4.out,HR4.out,HB4.out⟩
 case round=>
  rename World=>W1
  obtain⟨k,s,hk,rfl,hs,rfl,rfl,rfl,rfl,rfl,rfl,rfl,rfl,hA1,hR1,hB1⟩:=hrel;by_cases hlt:k<64
  ·have hd1:decide ((k:Int)<64)=true:=by simpa using (by omega:(k:Int)<64)
   obtain⟨x,hx⟩:=qM (Da.wi ws k);obtain⟨y,hy⟩:=qM (Da.wi Da.cubes k);have hIX:∀W,(Instr.index 121 (.agg R) (.int .i64 (k:Int))).run Tryz.prog W=.ok (.int .u32 (x.toNat:Int)) W:=et _ _ 64 R k _ rm qK (fun W=>qK) hlt (by rw[<-HRE.out,List.getElem?_toArray,<-hx];exact dS _ _ (by rw[HWL.out];exact hlt));have hcu:W1.cell? ⟨23,k,none⟩=some (.int .u32 (y.toNat:Int)):=by rw[<-hy];exact(HV.out.later hB1).cell k hlt
   have HST:Hid (Da.rs (Da.St.of st) ws (k+1)=Da.rd s y x):=Lh (by rw[Da.rs,hs,hx,hy]);obtain⟨a,b,c,d,e,f,q,h⟩:=s;dsimp only;have l1:(k:Int)<64:=qO;have GE:Hid (∀v,Calls Tryz.prog 150 #[.int .u32 (e.toNat:Int),.int .i64 6,.int .i64 11,.int .i64 25] v fun r w'=>r=.returned (.int .u32 ((Da.nL e 6 11 25).toNat:Int))/\w'=v):=Lh fun v=>xL e 6 11 25 qO qO qO _
   have GA:Hid (∀v,Calls Tryz.prog 150 #[.int .u32 (a.toNat:Int),.int .i64 2,.int .i64 13,.int .i64 22] v fun r w'=>r=.returned (.int .u32 ((Da.nL a 2 13 22).toNat:Int))/\w'=v):=Lh fun v=>xL a 2 13 22 qO qO qO _
   have CH:Hid (∀v,Calls Tryz.prog 151 #[.int .u32 (e.toNat:Int),.int .u32 (f.toNat:Int),.int .u32 (q.toNat:Int)] v fun r w'=>r=.returned (.int .u32 ((Da.ch e f q).toNat:Int))/\w'=v):=Lh fun v=>Cy e f q v
   have MJ:Hid (∀v,Calls Tryz.prog 152 #[.int .u32 (a.toNat:Int),.int .u32 (b.toNat:Int),.int .u32 (c.toNat:Int)] v fun r w'=>r=.returned (.int .u32 ((Da.mj a b c).toNat:Int))/\w'=v):=Lh fun v=>yb a b c v
   have HT:Hid (Da.rd ⟨a,b,c,d,e,f,q,h⟩ y x=⟨Da.add (Da.add (Da.add (Da.add (Da.add h (Da.nL e 6 11 25)) (Da.ch e f q)) y) x) (Da.add (Da.nL a 2 13 22) (Da.mj a b c)),a,b,c,Da.add d (Da.add (Da.add (Da.add (Da.add h (Da.nL e 6 11 25)) (Da.ch e f q)) y) x),e,f,q⟩):=Lh rfl;generalize Da.nL e 6 11 25=ge at GE HT;generalize Da.nL a 2 13 22=ga at GA HT;generalize Da.ch e f q=ce at CH HT;generalize Da.mj a b c=ma at MJ HT;have HA1:=Lh hA1;have HR1:=Lh hR1;have HB1:=Lh hB1;clear hA1 hR1 hB1 hx hy hs;go_wp2_with fail;go_quiet ((first|with_reducible exact Calls.quiet_of_same (GE.out _)|with_reducible exact Calls.quiet_of_same (CH.out _)))
   go_wp2_with (first|(with_reducible refine(GA.out _).mono ?_;rintro e' w' ⟨rfl,rfl⟩)|(with_reducible refine(MJ.out _).mono ?_;rintro e' w' ⟨rfl,rfl⟩))
   refine⟨⟨k+1,_,qO,by go_num,HST.out.trans HT.out,?_,rfl,rfl,rfl,?_,rfl,rfl,rfl,HA1.out.drewN nq,HR1.out.drewN nq,Kit.dn HB1.out nq⟩,by simp[intOf];omega⟩
   ·refine congrArg (Value.int .u32) ?_;simp only[Da.add,UInt32.toNat_add];omega
   ·refine congrArg (Value.int .u32) ?_;simp only[Da.add,UInt32.toNat_add];omega
  ·obtain rfl:k=64:=qO;rw[show(((64:Nat):Int))=64 from rfl];have HE:Hid (Da.ax st s 8=Da.mB st bs):=Lh (by rw[<-hs,<-HWS.out];exact Da.LK st bs);obtain⟨a,b,c,d,e,f,q,h⟩:=s;dsimp only;obtain⟨B,hBE⟩:=qM ((ar [a,b,c,d,e,f,q,h]).toArray);have hz0:¬Z=#[]:=fun h0=>by have:=HZ.out;rw[h0]at this;cases this
   have hz8:Z.size=8:=by rw[HZ.out];rfl
   have hbu:((((((((Z.setIfInBounds 0 (Value.int IntKind.u32 (a.toNat:Int))).setIfInBounds 1 (Value.int IntKind.u32 (b.toNat:Int))).setIfInBounds 2 (Value.int IntKind.u32 (c.toNat:Int))).setIfInBounds 3 (Value.int IntKind.u32 (d.toNat:Int))).setIfInBounds 4 (Value.int IntKind.u32 (e.toNat:Int))).setIfInBounds 5 (Value.int IntKind.u32 (f.toNat:Int))).setIfInBounds 6 (Value.int IntKind.u32 (q.toNat:Int))).setIfInBounds 7 (Value.int IntKind.u32 (h.toNat:Int)))=B:=by
    rw[HZ.out,<-hBE];rfl
   have HBE:=Lh hBE;have HA1:=Lh hA1;have HR1:=Lh hR1;have HB1:=Lh hB1;clear hA1 hR1 hB1 hs HA HR HB HW3 HA4 HR4 HB4 hBE;go_wp2_with fail;obtain⟨s,hs⟩:∃s:Da.St,⟨a,b,c,d,e,f,q,h⟩=s:=⟨_,rfl⟩;have HBS:Hid ((ar s.list).toArray=B):=Lh (by rw[<-hs];exact HBE.out);have HE':Hid (Da.ax st s 8=Da.mB st bs):=Lh (by rw[<-hs];exact HE.out);clear hbu HBE HE hs;go_loopw [85] (fun i wr=>Sh2 st s g w i wr) (fun i _=>8-(intOf i).toNat)
   case atStart=>exact⟨0,Nat.zero_le _,rfl,by rw[Da.Fb st s hst];exact HA1.out,HR1.out,HB1.out⟩
   case round=>
    rename World=>W2
    obtain⟨k,hk,rfl,hA2,hR2,hB2⟩:=hrel;by_cases hlt:k<8
    ·have hd1:decide ((k:Int)<8)=true:=by simpa using (by omega:(k:Int)<8)
     obtain⟨x,hx⟩:=qM (Da.wi s.list k);obtain⟨y,hy⟩:=qM (Da.wi (Da.ax st s k) k);have hIX:∀W,(Instr.index 120 (.agg B) (.int .i64 (k:Int))).run Tryz.prog W=.ok (.int .u32 (x.toNat:Int)) W:=et _ _ 8 B k _ fK qK (fun W=>qK) hlt (by rw[<-HBS.out,List.getElem?_toArray,<-hx];exact dS _ _ (by simpa[Da.St.list]using hlt));have hce:W2.cell? ⟨g,k,none⟩=some (.int .u32 (y.toNat:Int)):=by rw[hA2.cell,<-hy];exact dS _ _ (by rw[Da.Ht];exact hlt)
     have hfr:=hA2.frozen k;have HST:=Lh (Da.Fc st s k hlt);rw[hx,hy]at HST;have HA2:=Lh hA2;have HR2:=Lh hR2;have HB2:=Lh hB2;clear hA2 hR2 hB2 hx hy;go_wp2_with fail;refine⟨⟨k+1,qO,by go_num,?_,?_,?_⟩,by simp[intOf];omega⟩
     ·rw[gy,<-HST.out,<-lJ];exact HA2.out.set _ _
     ·exact HR2.out.ne HA2.out qO _ _
     ·exact HA2.out.below HB2.out qO _ _
    ·obtain rfl:k=8:=qO;rw[show(((8:Nat):Int))=8 from rfl];rw[HE'.out]at hA2;obtain⟨F,hF⟩:=qM ((ar (Da.mB st bs)).toArray);have HRS:Hid ((Tryz.prog.info? 120).map (·.size)=some F.size):=Lh (by rw[iA,<-hF];simp[Da.cY]);have HRO:Hid (F.all (·.oneCell')=true):=Lh (by rw[<-hF];exact all_oneCell_toArray (jB _));have HRZ:Hid ((ar (List.replicate 8 0)).toArray.size=F.size):=Lh (by rw[<-hF];simp[Da.cY]);have HL1:Hid (W2.heap[g]? =some (.cells F 120 (0,0))):=Lh (by rw[<-hF];exact hA2);have HL2:Hid (W2.heap[g+1+1]? =some (.cells (ar (List.replicate 8 0)).toArray 120 (0,0))):=Lh hR2;have HGW:Hid ((W2.setRow (g+1+1) F).heap[g+1+1]? =some (.cells F 120 (0,0))):=Lh (setRow_heap _ _ _ _ _ _ hR2);have HBW:Hid (Below w.heap.size w (W2.setRow (g+1+1) F)):=Lh (hB2.trans (aA qO));have HFE:=Lh hF;clear hF hA2 hR2 hB2 hzs hz0 hz8;go_wp2_with (first|refine wpList_load_row rfl 120 (.tmp 2) rfl g rfl 120 F (0,0) _ HL1.out fK rfl HRS.out ?_|refine wpList_store_row rfl 120 (.tmp 4) (.tmp 96) rfl (g+1+1) F rfl rfl 120 (ar (List.replicate 8 0)).toArray HL2.out HRS.out HRZ.out HRO.out ?_)
     refine bodyPost_ret (results_cell_row rfl _ _ (g+1+1) 120 F (0,0) _ rfl HGW.out fK rfl HRS.out) rfl ?_;exact⟨by rw[HFE.out],HBW.out⟩
theorem uN(st:List UInt32)(bs:BL)(hst:st.length=8)(hb:bs.length=64)(w:World)(hV:Var w 23 Da.cubes):
  Calls Tryz.prog 108 #[.agg (ar st).toArray,.agg (bytesV bs).toArray] w fun e w'=>e=.returned (.agg (ar (Da.mB st bs)).toArray)/\Below w.heap.size w w':=Hz _ rfl Ff st bs hst hb w hV
