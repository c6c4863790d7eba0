/- Fwm -/
import Derived.Test.YteldgablpehcpaaGreatDoorRows
import Derived.Test.YteldgablpehcpaaGreatDoorGf
import Derived.WalkKit
import Derived.ProofKit
import Derived.OpenShut
import Derived.Laws.BitsAllLaws
import Derived.Lib.Hide
import Derived.RegionTactic
import Derived.Outline
import Derived.Deep.QuietTactic
import Derived.BigQuiet
import Derived.ChangeAlike
set_option linter.unusedVariables false
set_option linter.unusedSimpArgs false
set_option maxRecDepth 100000
set_option maxHeartbeats 8000000
namespace Go.Proofs.YteldgablpehcpaaGreatDoor
open Go.RowKit
theorem eJ{k:IntKind}{a b:Int}(h:a=b):Ending.returned (.int k a)=.returned (.int k b):=by rw[h]
namespace Gf
theorem QG(a:Nat)(ha:a<256):a&&&128=if a<128 then 0 else 128:=by
 have h:(List.range 256).all (fun a=>a&&&128==if a<128 then 0 else 128)=true:=by decide+kernel
 simpa using ko h a ha
theorem Ta(a:Nat):a&&&1=a % 2:=Nat.and_two_pow_sub_one_eq_mod a 1
end Gf
theorem pf(a:Nat)(ha:a<256)(w:World):
  Calls Tryz.prog 194 #[.int .u8 (a:Int)] w fun e w'=>e=.returned (.int .u8 (Gf.dbl a:Nat))/\w=w':=by
 have hb:bits .and .u8 (a:Int) 128=((a&&&128:Nat):Int):=u8_and_nat a 128 ha (by decide);rw[Gf.QG a ha]at hb;by_cases h:a<128
 ·rw[if_pos h]at hb;have hc:(bits .and .u8 (a:Int) 128 !=0)=false:=by rw[hb];rfl
  clear hb;have hd:Gf.dbl a=2*a:=by unfold Gf.dbl;rw[if_pos h]
  have HD:=Lib.hid hd;clear hd;go_enter Tryz.func194,Tryz.ntmps194
  go_wp2
  go_ret;exact⟨eJ (by rw[HD.out];omega),rfl⟩
 ·rw[if_neg h]at hb;have hc:(bits .and .u8 (a:Int) 128 !=0)=true:=by rw[hb];rfl
  clear hb;have hx:bits .xor .u8 (IntKind.u8.wrap (a*2)) 29=(Gf.dbl a:Nat):=by
   have:IntKind.u8.wrap (a*2)=((2*a-256:Nat):Int):=by rw[IntKind.wrap_u8];omega
   rw[this,show(29:Int)=((29:Nat):Int) from rfl,u8_xor_nat _ 29 (by omega) (by decide)];unfold Gf.dbl;rw[if_neg h]
  rw[IntKind.wrap_u8]at hx;have HX:=Lib.hid hx;clear hx;go_enter Tryz.func194,Tryz.ntmps194
  go_wp2
  go_ret;exact⟨eJ (by rw[HX.out]),rfl⟩
theorem Fs(a b:Nat)(ha:a<256)(hb:b<256)(w:World):
  Calls Tryz.prog 184 #[.int .u8 (a:Int),.int .u8 (b:Int)] w fun e w'=>e=.returned (.int .u8 (a^^^b:Nat))/\w=w':=by
 go_enter Tryz.func184,Tryz.ntmps184
 go_wp2
 go_ret;exact⟨eJ (u8_xor_nat a b ha hb),rfl⟩
def XC(a b:Nat)(x y p:Value):Prop:=
 ∃k x' y' p':Nat,x'<256/\y'<256/\p'<256/\y'<2^k/\Gf.mul a b=p'^^^Gf.mulN k x' y'/\x=.int .u8 x'/\y=.int .u8 y'/\p=.int .u8 p'
theorem oo(a b:Nat)(ha:a<256)(hb:b<256)(w:World):
  Calls Tryz.prog 212 #[.int .u8 (a:Int),.int .u8 (b:Int)] w fun e w'=>e=.returned (.int .u8 (Gf.mul a b:Nat))/\w=w':=by
 go_enter Tryz.func212,Tryz.ntmps212
 go_wp2
 go_loop [0,1,5] (fun x y p=>XC a b x y p) (fun _ y _=>(intOf y).toNat)
 case atStart=>exact⟨8,a,b,0,ha,hb,by decide,hb,by simp[Gf.mul],rfl,rfl,rfl⟩
 case round=>
  obtain⟨k,x,y,p,hx,hy,hp,hk,hm,rfl,rfl,rfl⟩:=hrel;have HM:=Lib.hid hm;clear hm;by_cases h0:y=0
  ·subst h0;go_wp2
   go_ret;exact⟨eJ (by rw[HM.out,Gf.nA];simp),rfl⟩
  ·have hne:((y:Int) !=0)=true:=by simpa using h0
   have hand:bits .and .u8 (y:Int) 1=((y % 2:Nat):Int):=by
    rw[<-Gf.Ta];exact u8_and_nat y 1 hy (by decide)
   obtain⟨k,rfl⟩:∃j,k=j+1:=by
    cases k with
    |zero=>omega
    |succ j=>exact⟨j,rfl⟩
   have hk2:y / 2<2^k:=by rw[Nat.pow_succ]at hk;omega
   have hdl:=Gf.nN x hx;by_cases h1:y % 2=1
   ·have ht:(bits .and .u8 (y:Int) 1==1)=true:=by rw[hand,h1];rfl
    have hs:p^^^(x^^^Gf.mulN k (Gf.dbl x) (y / 2))=(p^^^x)^^^Gf.mulN k (Gf.dbl x) (y / 2):=(Nat.xor_assoc _ _ _).symm;have HS:Hid (Gf.mul a b=(p^^^x)^^^Gf.mulN k (Gf.dbl x) (y / 2)):=Lib.hid (by rw[<-hs,HM.out,Gf.mulN,if_pos h1]);have hpx:=Gf.Cz hp hx;have hbx:bits .xor .u8 (p:Int) (x:Int)=((p^^^x:Nat):Int):=u8_xor_nat p x hp hx;have HB:=Lib.hid hbx;clear hand hs hbx h1;go_wp2_with (go_at_call 194;refine(pf x hx _).mono ?_;rintro e w' ⟨rfl,rfl⟩)
    go_round
    case rel=>exact⟨k,Gf.dbl x,y / 2,p^^^x,hdl,by omega,hpx,hk2,HS.out,rfl,by go_num,by rw[HB.out]⟩
    case measure=>simp[intOf];omega
   ·have ht:(bits .and .u8 (y:Int) 1==1)=false:=by rw[hand,show y % 2=0 by omega];rfl
    have HS:Hid (Gf.mul a b=p^^^Gf.mulN k (Gf.dbl x) (y / 2)):=Lib.hid (by rw[HM.out,Gf.mulN,if_neg h1,Nat.zero_xor]);clear hand h1;go_wp2_with (go_at_call 194;refine(pf x hx _).mono ?_;rintro e w' ⟨rfl,rfl⟩)
    go_round
    case rel=>exact⟨k,Gf.dbl x,y / 2,p,hdl,by omega,hp,hk2,HS.out,rfl,by go_num,rfl⟩
    case measure=>simp[intOf];omega
namespace Gf
def part(b i x:Nat):Nat:=if b.testBit i then x else 0
def rd:Nat->Nat->Nat
 |0,p=>p
 |n+1,p=>rd n (p^^^part p (8+n) (285*2^n))
theorem Li(p q:Nat)(hp:p<2^16)(hq:q<2^16):bits .xor .i64 (p:Int) (q:Int)=((p^^^q:Nat):Int):=by
 have hx:p^^^q<2^16:=Nat.xor_lt_two_pow hp hq;have hp':p % 2^IntKind.i64.bits=p:=Nat.mod_eq_of_lt (by show p<2^64;omega);have hq':q % 2^IntKind.i64.bits=q:=Nat.mod_eq_of_lt (by show q<2^64;omega);simp only[bits,BitVec.ofInt_natCast,BitVec.toNat_xor,BitVec.toNat_ofNat,hp',hq'];rw[IntKind.wrap_i64];omega
def qe(a:Nat)(n:Int):Nat:=if a=0 then(if n=0 then 1 else 0)else pw a (n % 255).toNat
end Gf
theorem AZ(n:Int)(w:World):
  Calls Tryz.prog 196 #[.int .i64 n] w fun e w'=>e=.returned (.int .i64 (n % 255))/\w=w':=by
 by_cases h0:0<=n
 ·have h1:0<=n % 255:=by omega
  go_enter Tryz.func196,Tryz.ntmps196
  go_wp2
  go_ret;exact⟨rfl,rfl⟩
 ·obtain⟨m,rfl⟩:∃m:Int,n= -m:=⟨-n,by omega⟩;have ht:(-m).tmod 255= -(m % 255):=by rw[Int.neg_tmod,Int.tmod_eq_emod_of_nonneg (by omega)]
  by_cases h2:m % 255=0
  ·have hlo:0<=(-m).tmod 255:=by omega
   have HT:Hid ((-m).tmod 255=(-m) % 255):=Lib.hid (by rw[ht];omega);clear ht;go_enter Tryz.func196,Tryz.ntmps196
   go_wp2
   go_ret;exact⟨eJ (by omega),rfl⟩
  ·have hlo:(-m).tmod 255<0:=by omega
   have hlo2: -255<(-m).tmod 255:=by omega
   have HT:Hid ((-m).tmod 255+255=(-m) % 255):=Lib.hid (by rw[ht];omega);clear ht;go_enter Tryz.func196,Tryz.ntmps196
   go_wp2
   go_ret;exact⟨eJ (by omega),rfl⟩
theorem wh(n:Int)(w:World):
  Calls Tryz.prog 230 #[.int .i64 n] w fun e w'=>e=.returned (.int .u8 (Gf.qe 0 n:Nat))/\w=w':=by
 by_cases h:n=0
 ·subst h;go_enter Tryz.func230,Tryz.ntmps230
  go_wp2
  go_ret;exact⟨eJ (by simp[Gf.qe]),rfl⟩
 ·have hb:(n==0)=false:=by simpa using h
  have HP:Hid ((Gf.qe 0 n:Nat)=0):=Lib.hid (by simp[Gf.qe,h]);go_enter Tryz.func230,Tryz.ntmps230
  go_wp2
  go_ret;exact⟨eJ (by rw[HP.out];rfl),rfl⟩
def XG(a L:Nat)(x p l:Value):Prop:=
 ∃x' p' l':Nat,x'<256/\p'<256/\l'<255/\Gf.mul p' (Gf.pw x' l')=Gf.pw a L/\x=.int .u8 x'/\p=.int .u8 p'/\l=.int .i64 l'
theorem Fu(a:Nat)(n:Int)(ha:a<256)(w:World):
  Calls Tryz.prog 228 #[.int .u8 (a:Int),.int .i64 n] w fun e w'=>e=.returned (.int .u8 (Gf.qe a n:Nat))/\w=w':=by
 by_cases h0:a=0
 ·subst h0;go_enter Tryz.func228,Tryz.ntmps228
  go_wp2_with (go_at_call 230;refine(wh n _).mono ?_;rintro e w' ⟨rfl,rfl⟩)
  go_ret;exact⟨rfl,rfl⟩
 ·have hz:((a:Int)==0)=false:=by simpa using h0
  have HP:Hid (Gf.qe a n=Gf.pw a (n % 255).toNat):=Lib.hid (by unfold Gf.qe;rw[if_neg h0]);have hm:0<=n % 255/\n % 255<255:=by omega
  obtain⟨L,hL⟩:=Int.eq_ofNat_of_zero_le hm.1;have ct:∀w,Calls Tryz.prog 196 #[.int .i64 n] w fun e w'=>e=.returned (.int .i64 (L:Int))/\w=w':=by
   intro w;rw[<-hL];exact AZ n w
  have CT:=Lib.hid ct;have HQ:Hid (Gf.qe a n=Gf.pw a L):=Lib.hid (by rw[HP.out,hL];rfl);have hL2:L<255:=by omega
  clear hm hL ct HP;go_enter Tryz.func228,Tryz.ntmps228
  go_wp2_with (go_at_call 196;refine(CT.out _).mono ?_;rintro e w' ⟨rfl,rfl⟩)
  go_loop [0,5,6] (fun x p l=>XG a L x p l) (fun _ _ l=>(intOf l).toNat)
  case atStart=>exact⟨a,1,L,ha,by decide,hL2,Gf.jT _ (Gf.pU _ _),rfl,rfl,rfl⟩
  case round=>
   obtain⟨x,p,l,hx,hp,hl,hm,rfl,rfl,rfl⟩:=hrel;have HM:=Lib.hid hm;clear hm;have hxx:=Gf.mul_lt x x hx;have hpx:=Gf.mul_lt p x hp;by_cases hl0:l=0
   ·subst hl0;go_wp2
    go_ret;exact⟨eJ (by rw[HQ.out,<-HM.out,Gf.pw,Gf.kp p hp]),rfl⟩
   ·have hlp:0<l:=by omega
    have hand:bits .and .i64 (l:Int) 1=((l % 2:Nat):Int):=by
     rw[<-Gf.Ta];exact(bits_nat .i64 63 (by decide) (fun n h0 h1=>by rw[IntKind.wrap_i64];omega) l 1 (by omega) (by decide)).1
    by_cases h1:l % 2=1
    ·have ht:(bits .and .i64 (l:Int) 1==1)=true:=by rw[hand,h1];rfl
     have HS:Hid (Gf.mul (Gf.mul p x) (Gf.pw (Gf.mul x x) (l / 2))=Gf.pw a L):=Lib.hid (by
      rw[Gf.LW _ _ hx,<-HM.out,Gf.lK p x _ hp hx (Gf.pU _ _),Gf.jh x _ hx (Gf.pU _ _)];congr 1
      rw[show l=2*(l / 2)+1 by omega,Gf.pw];congr 2;omega)
     clear hand h1 hl0;go_wp2_with fail;refine(oo p x hp hx _).mono ?_;rintro e w' ⟨rfl,rfl⟩;go_wp2_with fail;refine(oo x x hx hx _).mono ?_;rintro e w' ⟨rfl,rfl⟩;go_wp2_with fail;go_round
     case rel=>exact⟨Gf.mul x x,Gf.mul p x,l / 2,hxx,hpx,by omega,HS.out,rfl,rfl,by go_num⟩
     case measure=>simp[intOf];omega
    ·have ht:(bits .and .i64 (l:Int) 1==1)=false:=by rw[hand,show l % 2=0 by omega];rfl
     have HS:Hid (Gf.mul p (Gf.pw (Gf.mul x x) (l / 2))=Gf.pw a L):=Lib.hid (by
      rw[Gf.LW _ _ hx,<-HM.out,show 2*(l / 2)=l by omega])
     clear hand h1 hl0;go_wp2_with fail;refine(oo x x hx hx _).mono ?_;rintro e w' ⟨rfl,rfl⟩;go_wp2_with fail;go_round
     case rel=>exact⟨Gf.mul x x,p,l / 2,hxx,hp,by omega,HS.out,rfl,rfl,by go_num⟩
     case measure=>simp[intOf];omega
theorem Fv(n:Int)(w:World):
  Calls Tryz.prog 217 #[.int .i64 n] w fun e w'=>e=.returned (.int .u8 (Gf.ex (n % 255).toNat:Nat))/\w=w':=by
 have c:∀w,Calls Tryz.prog 228 #[.int .u8 2,.int .i64 n] w fun e w'=>e=.returned (.int .u8 (Gf.ex (n % 255).toNat:Nat))/\w=w':=by
  intro w;have h:=Fu 2 n (by decide) w;have h2:Gf.qe 2 n=Gf.ex (n % 255).toNat:=by unfold Gf.qe;rw[if_neg (by decide),Gf.LZ]
  rw[h2]at h;exact h
 have C:=Lib.hid c;clear c;go_enter Tryz.func217,Tryz.ntmps217
 go_wp2_with (go_at_call 228;refine(C.out _).mono ?_;rintro e w' ⟨rfl,rfl⟩)
 go_ret;exact⟨rfl,rfl⟩
namespace Gf
structure TabK(k:Nat)(C:Array Value):Prop where
 size:C.size=766
 low:∀i,i<k->C[i]? =some (.int .u8 (ex i:Nat))
 high:∀i,i<k->C[i+255]? =some (.int .u8 (ex i:Nat))
 zero:C[510]? =some (.int .i64 (-1))
 log:∀i,i<k->C[510+ex i]? =some (.int .i64 i)
theorem TabK.step{k:Nat}{C:Array Value}(h:TabK k C)(hk:k<255):
  TabK (k+1) (((C.setIfInBounds k (.int .u8 (ex k:Nat))).setIfInBounds (k+255) (.int .u8 (ex k:Nat))).setIfInBounds (510+ex k) (.int .i64 k)):=by
 have hs:=h.size;have he:=AS k;have h0:=LU k;refine⟨by simp[hs],?_,?_,?_,?_⟩
 ·intro i hi;simp only[Array.getElem?_setIfInBounds,Array.size_setIfInBounds];rw[if_neg (by omega),if_neg (by omega)];by_cases hik:k=i
  ·subst hik;rw[if_pos rfl,if_pos (by omega)]
  ·rw[if_neg hik];exact h.low i (by omega)
 ·intro i hi;simp only[Array.getElem?_setIfInBounds,Array.size_setIfInBounds];rw[if_neg (by omega)];by_cases hik:k=i
  ·subst hik;rw[if_pos rfl,if_pos (by omega)]
  ·rw[if_neg (by omega),if_neg (by omega)];exact h.high i (by omega)
 ·simp only[Array.getElem?_setIfInBounds,Array.size_setIfInBounds];rw[if_neg (by omega),if_neg (by omega),if_neg (by omega)];exact h.zero
 ·intro i hi;simp only[Array.getElem?_setIfInBounds,Array.size_setIfInBounds];by_cases hik:k=i
  ·subst hik;rw[if_pos rfl,if_pos (by omega)]
  ·have hne:ex k≠ex i:=by
    intro hx;have:=(yf k i).1 hx;rw[Nat.mod_eq_of_lt hk,Nat.mod_eq_of_lt (by omega)]at this;exact hik this
   rw[if_neg (by omega),if_neg (by omega),if_neg (by omega)];exact h.log i (by omega)
structure Tab(C:Array Value):Prop where
 size:C.size=766
 exp:∀i,i<510->C[i]? =some (.int .u8 (ex i:Nat))
 zero:C[510]? =some (.int .i64 (-1))
 log:∀i,i<255->C[510+ex i]? =some (.int .i64 i)
theorem TabK.tab{C:Array Value}(h:TabK 255 C):Tab C:=by
 refine⟨h.size,?_,h.zero,h.log⟩;intro i hi;by_cases hlt:i<255
 ·exact h.low i hlt
 ·have:=h.high (i-255) (by omega);rw[show i-255+255=i by omega]at this;rw[this,<-uO (i-255),show i-255+255=i by omega]
end Gf
def tz:Array Value:=Array.replicate 510 (.int .u8 0)++Array.replicate 256 (.int .i64 0)
theorem DF(w:World):Sem.run Tryz.prog (zeroValue 282) w=.ok (.agg tz) w:=by kernel_rfl
theorem ub(w:World)(C:Array Value)(T:TypeId)(n i:Nat)(v:Value):
  ((w.alloc (.cells C T)).drewN n).setCell ⟨w.heap.size,i,none⟩ v=(w.alloc (.cells (C.setIfInBounds i v) T)).drewN n:=by
 have h:∀(x:World),(x.drewN n).setCell ⟨w.heap.size,i,none⟩ v=(x.setCell ⟨w.heap.size,i,none⟩ v).drewN n:=fun x=>rfl
 rw[h];congr 1
 go_simp
def Z2(w:World)(p i:Value)(wr:World):Prop:=
 ∃(k n:Nat)(C:Array Value),k<=255/\p=.int .u8 (Gf.ex k:Nat)/\i=.int .i64 k/\Gf.TabK k C/\wr=(w.alloc (.cells C 282)).drewN n
def Fw(w:World)(e:Ending)(w':World):Prop:=
 ∃(n:Nat)(C:Array Value),Gf.Tab C/\e=.returned (.pointer (some ⟨w.heap.size,0,none⟩))/\w'=(w.alloc (.cells C 282)).drewN n
theorem QL(Z:Array Value)(hs:Z.size=766)(z:Value)(hz1:Z[510]? =some z)(w:World)(hz:∀w,Sem.run Tryz.prog (zeroValue 282) w=.ok (.agg Z) w):
  Calls Tryz.prog 172 #[] w (Fw w):=by
 have HS:=Lib.hid hs;clear hs;go_enter Tryz.func172,Tryz.ntmps172
 go_wp2
 clear hz;go_loopw [2,10] (fun p i wr=>Z2 w p i wr) (fun _ i _=>255-(intOf i).toNat)
 case atStart=>
  refine⟨0,0,_,by decide,rfl,rfl,⟨by simp[HS.out],fun i h=>absurd h (by omega),fun i h=>absurd h (by omega),?_,fun i h=>absurd h (by omega)⟩,rfl⟩;simp[HS.out]
 case round=>
  obtain⟨k,n,C,hk,rfl,rfl,hC,rfl⟩:=hrel;have hCs:=hC.size;by_cases hlt:k<255
  ·obtain⟨x1,h1⟩:∃x,C[k]? =some x:=⟨C[k]'(by omega),by simp⟩;obtain⟨x2,h2⟩:∃x,C[k+255]? =some x:=⟨C[k+255]'(by omega),by simp⟩;have HC:=Lib.hid hC;have HCs:=Lib.hid hCs;clear hC hCs;go_wp2
   go_region
   rw[ub,ub];generalize hD:(C.setIfInBounds k (Value.int IntKind.u8 ↑(Gf.ex k))).setIfInBounds (k+255) (Value.int IntKind.u8 ↑(Gf.ex k))=D;have hDs:D.size=766:=by rw[<-hD];simp[HCs.out]
   have hel:=Gf.AS k;obtain⟨x3,h3⟩:∃x,D[510+Gf.ex k]? =some x:=⟨D[510+Gf.ex k]'(by omega),by simp⟩;have HD:=Lib.hid hD;have HDs:=Lib.hid hDs;clear hD hDs h1 h2;go_wp2_with (go_at_call 194;refine(pf (Gf.ex k) hel _).mono ?_;rintro e w' ⟨rfl,rfl⟩)
   refine⟨⟨k+1,n+1,D.setIfInBounds (510+Gf.ex k) (.int .i64 k),by omega,rfl,by go_num,?_,ub w D _ _ _ _⟩,by simp[intOf];omega⟩;rw[<-HD.out];exact HC.out.step hlt
  ·obtain rfl:k=255:=by omega
   clear hCs;have HC:=Lib.hid hC;clear hC;go_wp2
   go_ret;exact⟨n,C,HC.out.tab,rfl,rfl⟩
theorem jE(w:World):Calls Tryz.prog 172 #[] w (Fw w):=by
 refine QL tz ?_ (.int .i64 0) ?_ w DF
 ·simp[tz]
 ·simp[tz]
theorem fL{w:World}{C:Array Value}{T:TypeId}{n:Nat}:Below w.heap.size w ((w.alloc (.cells C T)).drewN n):=by
 have h:∀n,Below w.heap.size w ((w.alloc (.cells C T)).drewN n):=by
  intro n;induction n with
  |zero=>exact(Below.refl _ _).alloc (Nat.le_refl _) _
  |succ n ih=>exact ih.drew
 exact h n
namespace Gf
theorem Tab.logAt{C:Array Value}(h:Tab C)(a:Nat)(h0:a≠0)(ha:a<256):C[510+a]? =some (.int .i64 (lg a:Nat)):=by
 obtain⟨h1,h2⟩:=nO a h0 ha;have:=h.log (lg a) h2;rw[h1]at this;exact this
theorem U5(a b:Nat)(h0:a≠0)(ha:a<256)(g0:b≠0)(hb:b<256):ex (lg a+lg b)=mul a b:=by
 rw[<-dG,(nO a h0 ha).1,(nO b g0 hb).1]
end Gf
structure TabAt(W:World)(B:Nat)(C:Array Value):Prop where
 block:W.heap[B]? =some (.cells C 282 (0,0))
 tab:Gf.Tab C
theorem TabAt.cell{W:World}{B:Nat}{C:Array Value}(h:TabAt W B C)(i:Nat):W.cell? ⟨B,i,none⟩=C[i]? :=by
 unfold World.cell?;rw[h.block];rfl
theorem TabAt.later{W W':World}{B:Nat}{C:Array Value}(h:TabAt W B C)(hb:Below W.heap.size W W'):TabAt W' B C:=
 ⟨by rw[hb.block B (Array.getElem?_eq_some_iff.1 h.block).1];exact h.block,h.tab⟩
theorem TabAt.made{W:World}{C:Array Value}{n:Nat}(h:Gf.Tab C):TabAt ((W.alloc (.cells C 282)).drewN n) W.heap.size C:=by
 refine⟨?_,h⟩;show(W.alloc (.cells C 282)).heap[W.heap.size]? =_;exact(MapKept.heap_alloc W _).1
theorem A1(a b:Nat)(ha:a<256)(hb:b<256)(B:Nat)(C:Array Value)(w:World)(hT:TabAt w B C):
  Calls Tryz.prog 195 #[.pointer (some ⟨B,0,none⟩),.int .u8 (a:Int),.int .u8 (b:Int)] w fun e w'=>e=.returned (.int .u8 (Gf.mul a b:Nat))/\∃n,w'=w.drewN n:=by
 by_cases h0:a=0
 ·have t1:((a:Int)==0)=true:=by simpa using h0
  have HM:Hid (Gf.mul a b=0):=Lib.hid (by rw[h0,Gf.eu]);clear h0 hT;go_enter Tryz.func195,Tryz.ntmps195
  go_wp2
  go_ret;exact⟨eJ (by rw[HM.out];rfl),0,rfl⟩
 ·by_cases g0:b=0
  ·have t1:((a:Int)==0)=false:=by simpa using h0
   have t2:((b:Int)==0)=true:=by simpa using g0
   have HM:Hid (Gf.mul a b=0):=Lib.hid (by rw[g0,Gf.cZ]);clear h0 g0 hT;go_enter Tryz.func195,Tryz.ntmps195
   go_wp2
   go_ret;exact⟨eJ (by rw[HM.out];rfl),0,rfl⟩
  ·have t1:((a:Int)==0)=false:=by simpa using h0
   have t2:((b:Int)==0)=false:=by simpa using g0
   have la:=(Gf.nO a h0 ha).2;have lb:=(Gf.nO b g0 hb).2;have HM:=Lib.hid (Gf.U5 a b h0 ha g0 hb);have c1:w.cell? ⟨B,510+a,none⟩=some (.int .i64 (Gf.lg a:Nat)):=by rw[hT.cell];exact hT.tab.logAt a h0 ha
   have c2:w.cell? ⟨B,510+b,none⟩=some (.int .i64 (Gf.lg b:Nat)):=by rw[hT.cell];exact hT.tab.logAt b g0 hb
   have c3:w.cell? ⟨B,Gf.lg a+Gf.lg b,none⟩=some (.int .u8 (Gf.ex (Gf.lg a+Gf.lg b):Nat)):=by rw[hT.cell];exact hT.tab.exp _ (by omega)
   clear h0 g0 hT;go_enter Tryz.func195,Tryz.ntmps195
   go_wp2
   go_quiet (fail)
   go_wp2
   go_ret;exact⟨eJ (by rw[HM.out]),_,rfl⟩
namespace Gf
theorem U6(a b:Nat)(h0:a≠0)(ha:a<256)(g0:b≠0)(hb:b<256):ex (lg a+255-lg b)=mul a (inv b):=by
 obtain⟨h1,h2⟩:=nO a h0 ha;obtain⟨h3,h4⟩:=nO b g0 hb;have e:inv b=ex (lg b*254):=by
  unfold inv;generalize lg b=n at*;subst h3;rw[xN]
 rw[e];generalize lg b=m at*;generalize lg a=n at*;subst h1;rw[dG,yf];omega
end Gf
theorem IL(a b:Nat)(h:a=0∨b=0)(B:Nat)(w:World):
  Calls Tryz.prog 215 #[.pointer (some ⟨B,0,none⟩),.int .u8 (a:Int),.int .u8 (b:Int)] w fun e w'=>e=.returned (.int .u8 0)/\∃n,w'=w.drewN n:=by
 by_cases h0:a=0
 ·have t1:((a:Int)==0)=true:=by simpa using h0
  clear h0 h;go_enter Tryz.func215,Tryz.ntmps215
  go_wp2
  go_ret;exact⟨rfl,0,rfl⟩
 ·have t1:((a:Int)==0)=false:=by simpa using h0
  have t2:((b:Int)==0)=true:=by have:b=0:=by omega
                                simpa using this
  clear h0 h;go_enter Tryz.func215,Tryz.ntmps215
  go_wp2
  go_ret;exact⟨rfl,0,rfl⟩
theorem A2(a b:Nat)(ha:a<256)(g0:b≠0)(hb:b<256)(B:Nat)(C:Array Value)(w:World)(hT:TabAt w B C):
  Calls Tryz.prog 215 #[.pointer (some ⟨B,0,none⟩),.int .u8 (a:Int),.int .u8 (b:Int)] w fun e w'=>e=.returned (.int .u8 (Gf.mul a (Gf.inv b):Nat))/\∃n,w'=w.drewN n:=by
 by_cases h0:a=0
 ·have h:=IL a b (Or.inl h0) B w;have e:Gf.mul a (Gf.inv b)=0:=by rw[h0,Gf.eu]
  rw[e];exact h
 ·have t1:((a:Int)==0)=false:=by simpa using h0
  have t2:((b:Int)==0)=false:=by simpa using g0
  have la:=(Gf.nO a h0 ha).2;have lb:=(Gf.nO b g0 hb).2;have HM:=Lib.hid (Gf.U6 a b h0 ha g0 hb);have c1:w.cell? ⟨B,510+a,none⟩=some (.int .i64 (Gf.lg a:Nat)):=by rw[hT.cell];exact hT.tab.logAt a h0 ha
  have c2:w.cell? ⟨B,510+b,none⟩=some (.int .i64 (Gf.lg b:Nat)):=by rw[hT.cell];exact hT.tab.logAt b g0 hb
  have hi0:0<=(Gf.lg a:Int)-Gf.lg b+255:=by omega
  have hi1:(Gf.lg a:Int)-Gf.lg b+255<510:=by omega
  have hi2:((Gf.lg a:Int)-Gf.lg b+255).toNat=Gf.lg a+255-Gf.lg b:=by omega
  have c3:w.cell? ⟨B,((Gf.lg a:Int)-Gf.lg b+255).toNat,none⟩=some (.int .u8 (Gf.ex (Gf.lg a+255-Gf.lg b):Nat)):=by rw[hi2,hT.cell];exact hT.tab.exp _ (by omega)
  clear h0 g0 hT hi2;go_enter Tryz.func215,Tryz.ntmps215
  go_wp2
  go_quiet (fail)
  go_wp2
  go_ret;exact⟨eJ (by rw[HM.out]),_,rfl⟩
theorem Fx(a:Nat)(h0:a≠0)(ha:a<256)(w:World):
  Calls Tryz.prog 208 #[.int .u8 (a:Int)] w fun e w'=>e=.returned (.tuple #[.int .u8 (Gf.inv a:Nat),.nilIface])/\w=w':=by
 have hz:((a:Int)==0)=false:=by simpa using h0
 have c:∀w,Calls Tryz.prog 228 #[.int .u8 a,.int .i64 (-1)] w fun e w'=>e=.returned (.int .u8 (Gf.inv a:Nat))/\w=w':=by
  intro w;have h:=Fu a (-1) ha w;have h2:Gf.qe a (-1)=Gf.inv a:=by unfold Gf.qe Gf.inv;rw[if_neg h0];rfl
  rw[h2]at h;exact h
 have C:=Lib.hid c;clear c;go_enter Tryz.func208,Tryz.ntmps208
 go_wp2_with (go_at_call 228;refine(C.out _).mono ?_;rintro e w' ⟨rfl,rfl⟩)
 go_ret2
 exact⟨rfl,rfl⟩
theorem Lj(n:Int)(B:Nat)(C:Array Value)(w:World)(hT:TabAt w B C):
  Calls Tryz.prog 174 #[.pointer (some ⟨B,0,none⟩),.int .i64 n] w fun e w'=>e=.returned (.int .u8 (Gf.ex (n % 255).toNat:Nat))/\∃n,w'=w.drewN n:=by
 have hm:0<=n % 255/\n % 255<255:=by omega
 obtain⟨L,hL⟩:=Int.eq_ofNat_of_zero_le hm.1;have ct:∀w,Calls Tryz.prog 196 #[.int .i64 n] w fun e w'=>e=.returned (.int .i64 (L:Int))/\w'=w:=by
  intro w;rw[<-hL];exact(AZ n w).mono fun _ _ ⟨h1,h2⟩=>⟨h1,h2.symm⟩
 have CT:=Lib.hid ct;have hl:L<510:=by omega
 have c3:w.cell? ⟨B,L,none⟩=some (.int .u8 (Gf.ex L:Nat)):=by rw[hT.cell];exact hT.tab.exp _ (by omega)
 have HL:Hid ((n % 255).toNat=L):=Lib.hid (by omega);clear hT hm hL ct;go_enter Tryz.func174,Tryz.ntmps174
 go_wp2
 go_quiet ((go_at_call 196;exact Calls.quiet_of_same (CT.out _)))
 go_wp2
 go_ret;exact⟨eJ (by rw[HL.out]),_,rfl⟩
theorem Lk(a b:Nat)(ha:a<256)(h0:b≠0)(hb:b<256)(w:World):
  Calls Tryz.prog 211 #[.int .u8 (a:Int),.int .u8 (b:Int)] w fun e w'=>e=.returned (.tuple #[.int .u8 (Gf.mul a (Gf.inv b):Nat),.nilIface])/\w=w':=by
 have H0:=Lib.hid h0;have hi:=Gf.uZ b;clear h0;go_enter Tryz.func211,Tryz.ntmps211
 go_wp2_with fail;refine(Fx b H0.out hb _).mono ?_;rintro e w' ⟨rfl,rfl⟩;go_wp2_with fail;refine(oo a _ ha hi _).mono ?_;rintro e w' ⟨rfl,rfl⟩;go_wp2_with fail;go_ret2
 exact⟨rfl,rfl⟩
