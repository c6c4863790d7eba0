/- Shu -/
import Derived.Test.YteldgablpehcpaaGreatDoorSr
set_option linter.unusedVariables false
set_option linter.unusedSimpArgs false
set_option maxRecDepth 100000
set_option maxHeartbeats 8000000
namespace Go.Proofs.YteldgablpehcpaaGreatDoor
open Go.RowKit
namespace Da
def it(f:Nat->Nat):Nat->Nat->Nat
 |0,x=>x
 |n+1,x=>it f n (f x)
theorem Qi(f:Nat->Nat)(n x:Nat):it f (n+1) x=f (it f n x):=by
 induction n generalizing x with
 |zero=>rfl
 |succ n ih=>exact ih (f x)
theorem Mw(f:Nat->Nat)(a b x:Nat):it f (a+b) x=it f b (it f a x):=by
 induction a generalizing x with
 |zero=>rw[Nat.zero_add];rfl
 |succ a ih=>rw[Nat.succ_add];exact ih (f x)
def Hit(f:Nat->Nat)(n m x:Nat):Prop:=it f m x<n/\∀j,j<m->n<=it f j x
def dst(f:Nat->Nat)(n:Nat):Nat->Nat->Nat
 |0,_=>0
 |q+1,x=>if x<n then 0 else dst f n q (f x)+1
theorem Hit.step{f:Nat->Nat}{n m x:Nat}(h:Hit f n m x)(hx:n<=x):∃m',m=m'+1/\Hit f n m' (f x):=by
 cases m with
 |zero=>have:=h.1;simp only[it]at this;omega
 |succ m=>exact⟨m,rfl,h.1,fun j hj=>h.2 (j+1) qO⟩
theorem Hit.here{f:Nat->Nat}{n m x:Nat}(h:Hit f n m x)(hx:x<n):m=0:=by
 cases m with
 |zero=>rfl
 |succ m=>have:=h.2 0 qO;simp only[it]at this;omega
theorem Hit.dst{f:Nat->Nat}{n m x q:Nat}(h:Hit f n m x)(hq:m<=q):dst f n q x=m:=by
 induction q generalizing m x with
 |zero=>obtain rfl:m=0:=by omega
        rfl
 |succ q ih=>
  unfold Da.dst;by_cases hx:x<n
  ·rw[if_pos hx,h.here hx]
  ·rw[if_neg hx];obtain⟨m',rfl,h'⟩:=h.step qO;rw[ih h' qO]
structure Perm(M:Nat)(f g:Nat->Nat):Prop where
 flt:∀x,x<M->f x<M
 glt:∀x,x<M->g x<M
 gf:∀x,x<M->g (f x)=x
 fg:∀x,x<M->f (g x)=x
theorem Perm.symm{M:Nat}{f g:Nat->Nat}(h:Perm M f g):Perm M g f:=⟨h.glt,h.flt,h.fg,h.gf⟩
theorem Perm.lt{M:Nat}{f g:Nat->Nat}(h:Perm M f g)(n x:Nat)(hx:x<M):it f n x<M:=by
 induction n generalizing x with
 |zero=>exact hx
 |succ n ih=>exact ih (f x) (h.flt x hx)
theorem Perm.back{M:Nat}{f g:Nat->Nat}(h:Perm M f g)(n x:Nat)(hx:x<M):it g n (it f n x)=x:=by
 induction n generalizing x with
 |zero=>rfl
 |succ n ih=>
  rw[Qi g,show it f (n+1) x=it f n (f x) from rfl,ih (f x) (h.flt x hx),h.gf x hx]
theorem Qj(M:Nat):∀F:Nat->Nat,(∀i,i<=M->F i<M)->∃i j,i<j/\j<=M/\F i=F j:=by
 induction M with
 |zero=>intro F h;have:=h 0 qN;omega
 |succ M ih=>
  intro F h;by_cases hv:∃i,i<=M/\F i=F (M+1)
  ·obtain⟨i,hi,e⟩:=hv;exact⟨i,M+1,qO,Nat.le_refl _,e⟩
  ·have hne:∀i,i<=M->F i≠F (M+1):=fun i hi e=>hv ⟨i,hi,e⟩
   obtain⟨i,j,hij,hj,e⟩:=ih (fun i=>if F i=M then F (M+1)else F i) (fun i hi=>by
    have h1:=h i qO;have h2:=h (M+1) qN;have h3:=hne i hi;by_cases e:F i=M
    ·rw[if_pos e];omega
    ·rw[if_neg e];omega)
   have h3:=hne i qO;have h4:=hne j hj;refine⟨i,j,hij,qO,?_⟩;by_cases e1:F i=M
   ·by_cases e2:F j=M
    ·rw[e1,e2]
    ·rw[if_pos e1,if_neg e2]at e;exact absurd e.symm h4
   ·by_cases e2:F j=M
    ·rw[if_neg e1,if_pos e2]at e;exact absurd e h3
    ·rw[if_neg e1,if_neg e2]at e;exact e
theorem Perm.ring{M:Nat}{f g:Nat->Nat}(h:Perm M f g)(x:Nat)(hx:x<M):∃d,d<M/\it f (d+1) x=x:=by
 obtain⟨i,j,hij,hj,e⟩:=Qj M (fun i=>it f i x) (fun i _=>h.lt i x hx);refine⟨j-i-1,qO,?_⟩;have h1:=h.back i x hx;have h2:it f j x=it f i (it f (j-i-1+1) x):=by rw[<-Mw,show j-i-1+1+i=j by omega]
 rw[e,h2,h.back i _ (h.lt _ x hx)]at h1;exact h1
theorem VE(f:Nat->Nat)(n d x:Nat)(h:it f d x<n):∃m,m<=d/\Hit f n m x:=by
 induction d generalizing x with
 |zero=>exact⟨0,Nat.le_refl _,h,fun j hj=>qO⟩
 |succ d ih=>
  by_cases hx:x<n
  ·exact⟨0,qO,hx,fun j hj=>qO⟩
  ·obtain⟨m,hm,h1,h2⟩:=ih (f x) h;refine⟨m+1,qO,h1,fun j hj=>?_⟩;cases j with
   |zero=>show n<=x;omega
   |succ j=>exact h2 j qO
def pl(f:Nat->Nat)(n M x:Nat):Nat:=it f (dst f n M (f x)) (f x)
theorem Perm.hit{M:Nat}{f g:Nat->Nat}(h:Perm M f g)(n x:Nat)(hx:x<n)(hn:n<=M):Hit f n (dst f n M (f x)) (f x)/\dst f n M (f x)<M:=by
 obtain⟨d,hd,e⟩:=h.ring x qO;obtain⟨m,hm,H⟩:=VE f n d (f x) (by rw[show it f d (f x)=x from e];exact hx);rw[H.dst qO];exact⟨H,qO⟩
theorem Perm.pl_lt{M:Nat}{f g:Nat->Nat}(h:Perm M f g)(n x:Nat)(hx:x<n)(hn:n<=M):pl f n M x<n:=(h.hit n x hx hn).1.1
theorem Perm.pl_back{M:Nat}{f g:Nat->Nat}(h:Perm M f g)(n x:Nat)(hx:x<n)(hn:n<=M):pl g n M (pl f n M x)=x:=by
 obtain⟨H,hm⟩:=h.hit n x hx hn;unfold pl;obtain⟨m,hme⟩:=qM (dst f n M (f x));rw[hme]at H hm⊢;have hx':x<M:=qO;have key:∀j,j<=m->it g j (g (it f m (f x)))=it f (m-j) x:=fun j hj=>by
  have e:it f m (f x)=it f (j+1) (it f (m-j) x):=by rw[<-Mw,show m-j+(j+1)=m+1 by omega];rfl
  rw[show it g j (g (it f m (f x)))=it g (j+1) (it f m (f x)) from rfl,e,h.back _ _ (h.lt _ x hx')]
 have hg:Hit g n m (g (it f m (f x))):=by
  refine⟨by rw[key m qN,Nat.sub_self];exact hx,fun j hj=>?_⟩;rw[key j qO,show m-j=m-j-1+1 by omega];exact H.2 (m-j-1) qO
 rw[hg.dst qO,key m qN,Nat.sub_self];rfl
def mx(k:BL)(w r h:Nat):Nat:=nbe ((eX k (UInt8.ofNat r::bQ h)).take 8) % 2^w
theorem G5(k:BL)(w r h:Nat):mx k w r h<2^w:=Nat.mod_lt _ (Nat.two_pow_pos w)
def rnd(k:BL)(w r:Nat)(p:Nat×Nat):Nat×Nat:=(p.2,p.1^^^mx k w r p.2)
def unr(k:BL)(w r:Nat)(p:Nat×Nat):Nat×Nat:=(p.2^^^mx k w r p.1,p.1)
def iI(k:BL)(w:Nat):Nat->Nat×Nat->Nat×Nat
 |0,p=>p
 |n+1,p=>rnd k w n (iI k w n p)
def rJ(k:BL)(w:Nat):Nat->Nat×Nat->Nat×Nat
 |0,p=>p
 |n+1,p=>rJ k w n (unr k w n p)
def Hv(w:Nat)(p:Nat×Nat):Prop:=p.1<2^w/\p.2<2^w
theorem Hv.rnd{w:Nat}{p:Nat×Nat}(h:Hv w p)(k:BL)(r:Nat):Hv w (rnd k w r p):=⟨h.2,Nat.xor_lt_two_pow h.1 (G5 _ _ _ _)⟩
theorem Hv.unr{w:Nat}{p:Nat×Nat}(h:Hv w p)(k:BL)(r:Nat):Hv w (unr k w r p):=⟨Nat.xor_lt_two_pow h.2 (G5 _ _ _ _),h.1⟩
theorem Hv.rnds{w:Nat}{p:Nat×Nat}(h:Hv w p)(k:BL)(n:Nat):Hv w (iI k w n p):=by
 induction n with
 |zero=>exact h
 |succ n ih=>exact ih.rnd k n
theorem Hv.unrs{w:Nat}(k:BL)(n:Nat){p:Nat×Nat}(h:Hv w p):Hv w (rJ k w n p):=by
 induction n generalizing p with
 |zero=>exact h
 |succ n ih=>exact ih (h.unr k n)
theorem xn(a b:Nat):(a^^^b)^^^b=a:=by rw[Nat.xor_assoc,Nat.xor_self,Nat.xor_zero]
theorem Qk(k:BL)(w r:Nat)(p:Nat×Nat):unr k w r (rnd k w r p)=p:=by
 unfold unr rnd;exact Prod.ext (xn _ _) rfl
theorem Ql(k:BL)(w r:Nat)(p:Nat×Nat):rnd k w r (unr k w r p)=p:=by
 unfold unr rnd;exact Prod.ext rfl (xn _ _)
theorem Iq(k:BL)(w n:Nat)(p:Nat×Nat):rJ k w n (iI k w n p)=p:=by
 induction n with
 |zero=>rfl
 |succ n ih=>show rJ k w n (unr k w n (rnd k w n (iI k w n p)))=p;rw[Qk,ih]
theorem Ir(k:BL)(w n:Nat)(p:Nat×Nat):iI k w n (rJ k w n p)=p:=by
 induction n generalizing p with
 |zero=>rfl
 |succ n ih=>show rnd k w n (iI k w n (rJ k w n (unr k w n p)))=p;rw[ih,Ql]
def fI(w x:Nat):Nat×Nat:=(x / 2^w,x % 2^w)
def ss(w:Nat)(p:Nat×Nat):Nat:=p.1*2^w+p.2
theorem vN{w:Nat}{p:Nat×Nat}(h:Hv w p):fI w (ss w p)=p:=by
 unfold fI ss;have:=h.2;refine Prod.ext ?_ ?_
 ·show(p.1*2^w+p.2) / 2^w=p.1;rw[Nat.mul_comm,Nat.mul_add_div (Nat.two_pow_pos w),Nat.div_eq_of_lt h.2,Nat.add_zero]
 ·show(p.1*2^w+p.2) % 2^w=p.2;rw[Nat.mul_comm,Nat.mul_add_mod,Nat.mod_eq_of_lt h.2]
theorem vO(w x:Nat):ss w (fI w x)=x:=by
 unfold fI ss;show x / 2^w*2^w+x % 2^w=x;rw[Nat.mul_comm];exact Nat.div_add_mod x (2^w)
theorem BN(w:Nat):(4:Nat)^w=2^w*2^w:=by rw[<-Nat.mul_pow]
theorem mV{w x:Nat}(h:x<4^w):Hv w (fI w x):=⟨Nat.div_lt_of_lt_mul (by rw[<-BN];exact h),Nat.mod_lt _ (Nat.two_pow_pos w)⟩
theorem BO{w:Nat}{p:Nat×Nat}(h:Hv w p):ss w p<4^w:=by
 unfold ss;rw[BN];have h1:=h.1;have h2:=h.2;have:(p.1+1)*2^w<=2^w*2^w:=Nat.mul_le_mul_right _ h1;rw[Nat.add_mul,Nat.one_mul]at this;omega
def son(k:BL)(w x:Nat):Nat:=ss w (iI k w 4 (fI w x))
def sbk(k:BL)(w x:Nat):Nat:=ss w (rJ k w 4 (fI w x))
theorem vP(k:BL)(w:Nat):Perm (4^w) (son k w) (sbk k w):=
 ⟨fun x hx=>BO ((mV hx).rnds k 4),fun x hx=>BO (Hv.unrs k 4 (mV hx)),
  fun x hx=>by unfold sbk son;rw[vN ((mV hx).rnds k 4),Iq,vO],
  fun x hx=>by unfold sbk son;rw[vN (Hv.unrs k 4 (mV hx)),Ir,vO]⟩
def kW(n:Nat):Nat->Nat->Nat
 |0,w=>w
 |q+1,w=>if 4^w<n then kW n q (w+1)else w
def bw(n:Nat):Nat:=kW n 20 1
theorem It(n:Nat):∀q w,n<=4^(w+q)->n<=4^kW n q w:=by
 intro q;induction q with
 |zero=>intro w h;exact h
 |succ q ih=>
  intro w h;unfold kW;by_cases hw:4^w<n
  ·rw[if_pos hw];exact ih (w+1) (by rw[show w+1+q=w+(q+1) by omega];exact h)
  ·rw[if_neg hw];omega
theorem vQ(n q w:Nat)(h:¬4^w<n):kW n q w=w:=by
 cases q with
 |zero=>rfl
 |succ q=>unfold kW;rw[if_neg h]
theorem BP(n q w:Nat)(h:4^w<n)(hq:n<=4^(w+q)):0<q/\kW n q w=kW n (q-1) (w+1):=by
 cases q with
 |zero=>simp at hq;omega
 |succ q=>exact⟨qO,by show(if 4^w<n then kW n q (w+1)else w)=_;rw[if_pos h];rfl⟩
theorem Mx(n:Nat)(h:n<=1048576):1<=bw n/\bw n<=10:=by
 have key:∀q w,w<=10->w<=kW n q w/\kW n q w<=10:=by
  intro q;induction q with
  |zero=>intro w hw;exact⟨Nat.le_refl _,hw⟩
  |succ q ih=>
   intro w hw;unfold kW;by_cases h4:4^w<n
   ·rw[if_pos h4];have:w<10:=by
     by_cases e:w=10
     ·subst e;omega
     ·omega
    have:=ih (w+1) qO;omega
   ·rw[if_neg h4];omega
 exact key 20 1 qO
theorem vR(n:Nat)(h:n<=1048576):n<=4^bw n:=It n 20 1 qO
end Da
theorem Iu(p:Nat)(m:Int): Tryz.prog.built 173 [(0,.pointer (some ⟨p,0,none⟩)),(1,.int .i64 m)]=some #[.pointer (some ⟨p,0,none⟩),.int .i64 m]:=qK
theorem Qm(p:Nat)(m:Int):(#[.pointer (some ⟨p,0,none⟩),.int .i64 m]:Array Value).all (·.oneCell')=true:=all_oneCell_toArray (cs:=[.pointer (some ⟨p,0,none⟩),.int .i64 m]) (fun u hu=>by
 rcases List.mem_cons.1 hu with rfl|hu
 ·rfl
 ·rw[List.mem_singleton]at hu;subst hu;rfl)
theorem eP:(Tryz.prog.info? 173).map (·.size)=some 2:=qK
theorem Qo(k:BL)(o:Option Addr)(c:Nat)(m:Nat)(w:World)(hR:RowIs w o (bytesV k) c)(hV:Cds w)(hl:k.length<=900000):
  Calls Tryz.prog 121 #[.slice o k.length c,.int .i64 (m:Int)] w fun e w'=>∃p,e=.returned (.agg #[.pointer (some ⟨p,0,none⟩),.int .i64 (m:Int)])/\Arr w' p 179 (bytesV (Da.fil k))/\Below w.heap.size w w':=by
 obtain⟨g,hg⟩:=qM w.heap.size;obtain⟨W1,hW1⟩:=qM (w.alloc (.cells #[.pointer none,.int .i64 0] 173));have hb1:Below w.heap.size w W1:=by rw[<-hW1];exact qB.alloc qN _
 have hA1:Arr W1 g 173 [.pointer none,.int .i64 0]:=by rw[<-hW1,<-hg];exact Arr.made _ _ _
 have KM:=Lh (gV k o c W1 (hR.later hb1) (hV.later hb1) hl);have HA1:=Lh hA1;have HB1:=Lh hb1;have HG:=Lh hg;have HW1:=Lh hW1;clear hR hV hb1 hA1 hg hW1;go_enter Tryz.func121,Tryz.ntmps121
 go_wp2_with (first|rw[HW1.out])
 refine KM.out.mono ?_;rintro e W2 ⟨rfl,hk,hb2⟩;obtain⟨p,hp⟩:=qM W1.heap.size;rw[hp]at hk⊢;have hA2:=HA1.out.later hb2 HA1.out.lt;obtain⟨W3,hW3⟩:=qM (W2.setRow g #[.pointer (some ⟨p,0,none⟩),.int .i64 (m:Int)]);have hA3:Arr W3 g 173 [.pointer (some ⟨p,0,none⟩),.int .i64 (m:Int)]:=by rw[<-hW3];exact setRow_heap _ _ _ _ _ _ hA2
 have hgp:p≠g:=by have:=HA1.out.lt;omega
 have hk3:Arr W3 p 179 (bytesV (Da.fil k)):=by rw[<-hW3];unfold Arr;rw[setRow_other _ _ _ _ hgp];exact hk
 have hB3:Below w.heap.size w W3:=by rw[<-hW3];exact(Ks HB1.out hb2).trans (aA (by rw[HG.out];exact Nat.le_refl _))
 have HA2:Hid (W2.heap[g]? =some (.cells #[.pointer none,.int .i64 0] 173 (0,0))):=Lh hA2;have HA3:Hid (W3.heap[g]? =some (.cells #[.pointer (some ⟨p,0,none⟩),.int .i64 (m:Int)] 173 (0,0))):=Lh hA3;have HK3:=Lh hk3;have HB3:=Lh hB3;have HW3:=Lh hW3;clear hk hb2 hp hA2 hA3 hW3 hgp hk3 hB3;go_wp2_with (first|rw[HG.out]|refine bN rfl 173 _ rfl [(0,.pointer (some ⟨p,0,none⟩)),(1,.int .i64 (m:Int))] (by simp;rfl) _ (Iu p (m:Int)) ?_|refine wpList_store_row rfl 173 (.tmp 4) (.tmp 8) rfl g #[.pointer (some ⟨p,0,none⟩),.int .i64 (m:Int)] rfl rfl 173 _ HA2.out eP rfl (Qm p (m:Int)) ?_|rw[HW3.out])
 refine bodyPost_ret (results_cell_row rfl _ _ g 173 #[.pointer (some ⟨p,0,none⟩),.int .i64 (m:Int)] (0,0) _ rfl HA3.out Tryz.underlying173 rfl eP) rfl ?_;exact⟨p,rfl,HK3.out,by have h:=HB3.out;rwa[HG.out]at h⟩
theorem tc{m:Nat}(h:m<=10):4^m<=1048576:=Nat.pow_le_pow_right (n:=4) qO h
theorem qE{m:Nat}(h:m<=10):2^m<=1024:=Nat.pow_le_pow_right (n:=2) qO h
theorem BQ(m:Nat):4^m=2^(2*m):=by rw[Nat.pow_mul]
theorem Iv(m:Nat)(h:m<=10):wrap64 (2^(2*m))=((4^m:Nat):Int):=by
 have hb:=tc h;have e:(2:Int)^(2*m)=((4^m:Nat):Int):=by rw[BQ];simp
 rw[e];obtain⟨F,hF⟩:=qM (4^m);rw[hF]at hb⊢;exact IntWalk.wrap64_in _ ⟨qO,qO⟩
theorem My(m:Nat)(h:m<=10)(w:World):Calls Tryz.prog 164 #[.int .i64 (m:Int)] w fun e w'=>e=.returned (.int .i64 ((4^m:Nat):Int))/\w'=w:=by
 have HS:=Lh (Iv m h);go_enter Tryz.func164,Tryz.ntmps164
 go_wp2_with fail;go_ret;refine⟨?_,rfl⟩;show Ending.returned (Value.int .i64 (wrap64 (2^(2*m))))=_;rw[HS.out]
def aAB(n:Nat)(w:World)(i:Value)(wr:World):Prop:=
 ∃m q:Nat,m+q=21/\m<=10/\i=.int .i64 (m:Int)/\Da.kW n q m=Da.bw n/\wr=w
theorem Iw(n:Nat)(hn:n<=1048576)(w:World):Calls Tryz.prog 122 #[.int .i64 (n:Int)] w fun e w'=>e=.returned (.int .i64 (Da.bw n:Nat))/\w'=w:=by
 go_enter Tryz.func122,Tryz.ntmps122
 go_wp2_with fail;go_loopw [3] (fun i wr=>aAB n w i wr) (fun i _=>21-(intOf i).toNat)
 case atStart=>exact⟨1,20,rfl,qD,rfl,rfl,rfl⟩
 case round=>
  obtain⟨m,q,hmq,h10,rfl,hs,rfl⟩:=hrel;have NO:=Lh (My m h10 wr);have hm10:4^m<n->m<10:=fun h=>by
   by_cases e:m=10
   ·subst e;omega
   ·omega
  have hgo:=fun h=>Da.BP n q m h (by rw[hmq];omega)
  have hst:=Da.vQ n q m;obtain⟨F,hF⟩:=qM (4^m);rw[hF]at NO hm10 hgo hst;have HS:=Lh hs;clear hs hF;by_cases hlt:F<n
  ·have hd:decide ((F:Int)<(n:Int))=true:=by simp;omega
   have h9:=hm10 hlt;have HG:=Lh (hgo hlt);clear hgo hst hm10;go_wp2_with fail;refine NO.out.mono ?_;rintro e w' ⟨rfl,rfl⟩;go_wp2_with fail;exact⟨⟨m+1,q-1,by have:=HG.out.1;omega,qO,rfl,by rw[<-HG.out.2];exact HS.out,rfl⟩,by simp[intOf];omega⟩
  ·have hd:decide ((F:Int)<(n:Int))=false:=by simp;omega
   have HST:=Lh (hst hlt);clear hgo hst hm10;go_wp2_with fail;refine NO.out.mono ?_;rintro e w' ⟨rfl,rfl⟩;go_wp2_with fail;go_ret;exact⟨by rw[<-HS.out,HST.out];rfl,rfl⟩
theorem Qp(x:Int)(m:Nat)(h:m<=10):bits .and .i64 x ((2^m:Nat)-1)=x % ((2^m:Nat):Int):=by
 have hb:=qE h;obtain⟨X,hX⟩:∃X:Nat,x % 18446744073709551616=(X:Int):=⟨_,(Int.toNat_of_nonneg (Int.emod_nonneg _ qD)).symm⟩;have hd:((2^m:Nat):Int)∣18446744073709551616:=by
  have:(2^m:Nat)∣2^64:=Nat.pow_dvd_pow 2 qO;exact Int.natCast_dvd_natCast.2 this
 have h1:x % ((2^m:Nat):Int)=((X % 2^m:Nat):Int):=by
  rw[<-Int.emod_emod_of_dvd x hd,hX];rfl
 have hp:=Nat.two_pow_pos m;have hy:(BitVec.ofInt 64 (((2^m:Nat):Int)-1)).toNat=2^m-1:=by
  rw[BitVec.toNat_ofInt];obtain⟨F,hF⟩:=qM (2^m);rw[hF]at hb hp⊢;have:((F:Int)-1) % ((2^64:Nat):Int)=(F:Int)-1:=qO;rw[this];omega
 have hx:(BitVec.ofInt 64 x).toNat=X:=by
  rw[BitVec.toNat_ofInt];have:x % ((2^64:Nat):Int)=(X:Int):=hX;rw[this];omega
 have hl:X % 2^m<2^m:=Nat.mod_lt _ hp;rw[h1];show IntKind.i64.wrap ((BitVec.ofInt 64 x&&&BitVec.ofInt 64 (((2^m:Nat):Int)-1)).toNat:Int)=_;rw[BitVec.toNat_and,hx,hy,Nat.and_two_pow_sub_one_eq_mod,IntKind.wrap_i64];obtain⟨F,hF⟩:=qM (X % 2^m);rw[hF]at hl⊢;omega
theorem Mz(m:Nat)(h:m<=10):wrap64 (wrap64 (2^m)-1)=((2^m:Nat):Int)-1:=by
 have hb:=qE h;have hp:=Nat.two_pow_pos m;have e:(2:Int)^m=((2^m:Nat):Int):=qS;rw[e];obtain⟨F,hF⟩:=qM (2^m);rw[hF]at hb hp⊢;rw[IntWalk.wrap64_in (F:Int) ⟨qO,qO⟩];exact IntWalk.wrap64_in _ ⟨qO,qO⟩
theorem BR(p m:Nat)(h:m<=10)(x:Int)(w:World):Calls Tryz.prog 170 #[.agg #[.pointer (some ⟨p,0,none⟩),.int .i64 (m:Int)],.int .i64 x] w fun e w'=>e=.returned (.int .i64 (x % ((2^m:Nat):Int)))/\Below w.heap.size w w':=by
 obtain⟨g,hg⟩:=qM w.heap.size;obtain⟨W1,hW1⟩:=qM (w.alloc (.cells #[.pointer (some ⟨p,0,none⟩),.int .i64 (m:Int)] 173));have HB1:Hid (Below w.heap.size w W1):=Lh (by rw[<-hW1];exact qB.alloc qN _);have hA1:Arr W1 g 173 [.pointer (some ⟨p,0,none⟩),.int .i64 (m:Int)]:=by rw[<-hW1,<-hg];exact Arr.made _ _ _
 have hc:W1.cell? ⟨g,1,none⟩=some (.int .i64 (m:Int)):=hA1.cell 1;have HW1:=Lh hW1;have HG:=Lh hg;clear hg hW1 hA1;go_enter Tryz.func170,Tryz.ntmps170
 go_wp2_with (first|rw[HW1.out,HG.out])
 go_ret;refine⟨?_,HB1.out⟩;show Ending.returned (Value.int .i64 (bits .and .i64 x (wrap64 (wrap64 (2^m)-1))))=_;rw[Mz m h,Qp x m h]
theorem Qq(p m g:Nat)(W1:World)(hA1:Arr W1 g 173 [.pointer (some ⟨p,0,none⟩),.int .i64 (m:Int)])(v:World)(hb:Below W1.heap.size W1 v):
  v.cell? ⟨g,1,none⟩=some (.int .i64 (m:Int))/\v.cell? ⟨g,0,none⟩=some (.pointer (some ⟨p,0,none⟩))/\v.rangeAt g 0 [.pointer (some ⟨p,0,none⟩),.int .i64 (m:Int)]:=by
 have h:=hA1.later hb hA1.lt;exact⟨h.cell 1,h.cell 0,h.range 0 _ fun j u hu=>by rw[Nat.zero_add];exact hu⟩
theorem xo(p m:Nat)(h:m<=10)(x:Nat)(w:World):Calls Tryz.prog 138 #[.agg #[.pointer (some ⟨p,0,none⟩),.int .i64 (m:Int)],.int .i64 (x:Int)] w fun e w'=>e=.returned (.tuple #[.int .i64 ((x / 2^m:Nat):Int),.int .i64 ((x % 2^m:Nat):Int)])/\Below w.heap.size w w':=by
 obtain⟨g,hg⟩:=qM w.heap.size;obtain⟨W1,hW1⟩:=qM (w.alloc (.cells #[.pointer (some ⟨p,0,none⟩),.int .i64 (m:Int)] 173));have HB1:Hid (Below w.heap.size w W1):=Lh (by rw[<-hW1];exact qB.alloc qN _);have hA1:Arr W1 g 173 [.pointer (some ⟨p,0,none⟩),.int .i64 (m:Int)]:=by rw[<-hW1,<-hg];exact Arr.made _ _ _
 have CL:=Lh (Qq p m g W1 hA1);have LO:Hid (∀v,Below W1.heap.size W1 v->Calls Tryz.prog 170 #[.agg #[.pointer (some ⟨p,0,none⟩),.int .i64 (m:Int)],.int .i64 (x:Int)] v fun e w'=>e=.returned (.int .i64 ((x % 2^m:Nat):Int))/\Below W1.heap.size W1 w'):=Lh (fun v hb=>by
  refine(BR p m h (x:Int) v).mono ?_;rintro e w' ⟨rfl,hb2⟩;exact⟨rfl,Ks hb hb2⟩)
 have HD:Hid ((x:Int) / 2^m=((x / 2^m:Nat):Int)):=Lh qS;have HX:Hid (Tryz.prog.underlying 173=_):=Lh Tryz.underlying173;have HW1:=Lh hW1;have HG:=Lh hg;obtain⟨R,hR⟩:=qM (((x % 2^m:Nat):Int));rw[hR]at LO⊢;obtain⟨C,hC⟩:∃C:World->Prop,(fun v=>Below W1.heap.size W1 v)=C:=⟨_,rfl⟩;have HC0:Hid (C {W1 with drawn:=W1.drawn+1}):=Lh (by rw[<-hC];exact Kit.dn' W1 1);have HCm:Hid (∀v,C v->Below W1.heap.size W1 v):=Lh fun v hv=>by rw[<-hC]at hv;exact hv
 have HCi:Hid (∀v,Below W1.heap.size W1 v->C v):=Lh fun v hv=>by rw[<-hC];exact hv
 clear hg hW1 hA1 hC hR;go_enter Tryz.func138,Tryz.ntmps138
 go_wp2_with (first|rw[HW1.out,HG.out])
 refine wp_region_quiet (C:=C) qK qK HC0.out ?_;simp only;refine wpQuiet_step (fun K hK=>?_);refine St.bW (x:=?_) (by rfl) (fun w hw=>?_) ?_;rotate_left;(· go_simp<;>with_reducible rfl);go_simp;refine hK _ ?_;clear hK K
 refine wpQuiet_step (fun K hK=>?_);refine St.bW (x:=?_) (by rfl) (fun w hw=>?_) ?_;rotate_left;(· go_simp<;>with_reducible rfl);go_simp;refine hK _ ?_;clear hK K
 refine wpQuiet_step (fun K hK=>?_);refine St.bW (x:=.int .i64 (m:Int)) (by rfl) (fun w hw=>?_) ?_;(· have hc:=(CL.out w (HCm.out w hw)).1;go_simp<;>with_reducible rfl);go_simp;refine hK _ ?_;clear hK K
 refine wpQuiet_step (fun K hK=>?_);refine St.bW (x:=?_) (by rfl) (fun w hw=>?_) ?_;rotate_left;(· go_simp<;>with_reducible rfl);go_simp;refine hK _ ?_;clear hK K
 refine wpQuiet_step (fun K hK=>?_);refine St.bW (x:=.agg #[.pointer (some ⟨p,0,none⟩),.int .i64 (m:Int)]) (by rfl) (fun w hw=>St.ib rfl rfl [.pointer (some ⟨p,0,none⟩),.int .i64 (m:Int)] _ (CL.out w (HCm.out w hw)).2.2 HX.out rfl eP) ?_;go_simp;refine hK _ ?_;clear hK K;refine wpQuiet_step (fun K hK=>?_);refine St.bW (x:=?_) (by rfl) (fun w hw=>?_) ?_;rotate_left;(· go_simp<;>with_reducible rfl);go_simp;refine hK _ ?_;clear hK K
 refine wpQuiet_step (fun K hK=>?_);refine St.pB (by rfl) 170 _ _ rfl #[.agg #[.pointer (some ⟨p,0,none⟩),.int .i64 (m:Int)],.int .i64 (x:Int)] (by go_simp) (fun w=>by simp[go_sem]) (.int .i64 R) (fun v hv=>(LO.out v (HCm.out v hv)).mono (fun e w' h=>⟨h.1,HCi.out _ h.2⟩)) ?_;go_simp;refine hK _ ?_;clear hK K;refine wpQuiet_step (fun K hK=>?_);refine St.bW (x:=?_) (by rfl) (fun w hw=>?_) ?_;rotate_left;(· go_simp<;>with_reducible rfl);go_simp;refine hK _ ?_;clear hK K
 refine wpQuiet_step (fun K hK=>?_);refine St.bW (x:=?_) (by rfl) (fun w hw=>?_) ?_;rotate_left;(· go_simp<;>with_reducible rfl);go_simp;refine hK _ ?_;clear hK K
 refine wpQuiet_nil ?_;intro W2 hC2;have HB2:=Lh (Ks HB1.out (HCm.out W2 hC2));go_wp2_with fail;refine bodyPost_ret (results_tmp2 rfl _ _ _) rfl ?_;exact⟨by rw[<-HD.out];rfl,HB2.out⟩
theorem VG(p q:Nat)(hp:p<2^62)(hq:q<2^62):bits .or .i64 (p:Int) (q:Int)=((p|||q:Nat):Int):=by
 have hx:p|||q<2^62:=Nat.or_lt_two_pow hp hq;have hp':p % 2^IntKind.i64.bits=p:=Nat.mod_eq_of_lt (by show p<2^64;omega);have hq':q % 2^IntKind.i64.bits=q:=Nat.mod_eq_of_lt (by show q<2^64;omega);simp only[bits,BitVec.ofInt_natCast,BitVec.toNat_or,BitVec.toNat_ofNat,hp',hq'];rw[IntKind.wrap_i64];omega
theorem zA(p q:Nat)(hp:p<2^62)(hq:q<2^62):bits .xor .i64 (p:Int) (q:Int)=((p^^^q:Nat):Int):=by
 have hx:p^^^q<2^62:=Nat.xor_lt_two_pow hp hq;have hp':p % 2^IntKind.i64.bits=p:=Nat.mod_eq_of_lt (by show p<2^64;omega);have hq':q % 2^IntKind.i64.bits=q:=Nat.mod_eq_of_lt (by show q<2^64;omega);simp only[bits,BitVec.ofInt_natCast,BitVec.toNat_xor,BitVec.toNat_ofNat,hp',hq'];rw[IntKind.wrap_i64];omega
theorem NA(l r m:Nat)(h:m<=10)(hl:l<2^m)(hr:r<2^m):bits .or .i64 (wrap64 ((l:Int)*2^m)) (r:Int)=((l*2^m+r:Nat):Int):=by
 have hb:=qE h;have e:(l:Int)*2^m=((l*2^m:Nat):Int):=qS;have hlm:l*2^m<1048576:=Nat.lt_of_lt_of_le (Nat.mul_lt_mul_of_pos_right hl (Nat.two_pow_pos m)) (Nat.le_trans (Nat.mul_le_mul hb hb) qD);have hs:l*2^m+r=l*2^m|||r:=by
  have:=Nat.shiftLeft_add_eq_or_of_lt hr l;rwa[Nat.shiftLeft_eq]at this
 rw[hs,e];obtain⟨F,hF⟩:=qM (l*2^m);rw[hF]at hlm⊢;rw[IntWalk.wrap64_in (F:Int) ⟨qO,qO⟩];exact VG F r qO qO
theorem xp(p m:Nat)(h:m<=10)(l r:Nat)(hl:l<2^m)(hr:r<2^m)(w:World):Calls Tryz.prog 140 #[.agg #[.pointer (some ⟨p,0,none⟩),.int .i64 (m:Int)],.int .i64 (l:Int),.int .i64 (r:Int)] w fun e w'=>e=.returned (.int .i64 ((l*2^m+r:Nat):Int))/\Below w.heap.size w w':=by
 obtain⟨g,hg⟩:=qM w.heap.size;obtain⟨W1,hW1⟩:=qM (w.alloc (.cells #[.pointer (some ⟨p,0,none⟩),.int .i64 (m:Int)] 173));have HB1:Hid (Below w.heap.size w W1):=Lh (by rw[<-hW1];exact qB.alloc qN _);have hA1:Arr W1 g 173 [.pointer (some ⟨p,0,none⟩),.int .i64 (m:Int)]:=by rw[<-hW1,<-hg];exact Arr.made _ _ _
 have hc:W1.cell? ⟨g,1,none⟩=some (.int .i64 (m:Int)):=hA1.cell 1;have HJ:=Lh (NA l r m h hl hr);have HW1:=Lh hW1;have HG:=Lh hg;clear hg hW1 hA1 hl hr;go_enter Tryz.func140,Tryz.ntmps140
 go_wp2_with (first|rw[HW1.out,HG.out])
 go_ret;refine⟨?_,HB1.out⟩;show Ending.returned (Value.int .i64 (bits .or .i64 (wrap64 ((l:Int)*2^m)) (r:Int)))=_;rw[HJ.out]
theorem NB(N y:Nat)(hy:y<256):bits .or .i64 (wrap64 (wrap64 (N:Int)*256)) (y:Int)=wrap64 ((N*256+y:Nat):Int):=by
 obtain⟨q,hq⟩:=qM (N % 72057594037927936);have hx:(BitVec.ofInt 64 (wrap64 (wrap64 (N:Int)*256))).toNat=q*256:=by
  rw[BitVec.toNat_ofInt];have:wrap64 (wrap64 (N:Int)*256) % ((2^64:Nat):Int)=((q*256:Nat):Int):=by
   simp only[wrap64];omega
  rw[this];omega
 have hy':(BitVec.ofInt 64 (y:Int)).toNat=y:=by
  rw[BitVec.toNat_ofInt];have:(y:Int) % ((2^64:Nat):Int)=(y:Int):=qO;rw[this];omega
 show IntKind.i64.wrap ((BitVec.ofInt 64 (wrap64 (wrap64 (N:Int)*256))|||BitVec.ofInt 64 (y:Int)).toNat:Int)=_;rw[BitVec.toNat_or,hx,hy',Mk _ _ hy,IntKind.wrap_i64];simp only[wrap64];omega
theorem wk:wrap64 ((0:Nat):Int)=0:=by simp only[wrap64];decide
theorem ND(N m:Nat)(h:m<=10):wrap64 (N:Int) % ((2^m:Nat):Int)=((N % 2^m:Nat):Int):=by
 have hd:((2^m:Nat):Int)∣18446744073709551616:=by
  have:(2^m:Nat)∣2^64:=Nat.pow_dvd_pow 2 qO;exact Int.natCast_dvd_natCast.2 this
 have e:wrap64 (N:Int) % 18446744073709551616=(N:Int) % 18446744073709551616:=by simp only[wrap64];omega
 rw[<-Int.emod_emod_of_dvd _ hd,e,Int.emod_emod_of_dvd _ hd];rfl
def SuG(k:BL)(r x:Nat)(b p:Nat)(Z:Array Value)(base:Nat)(i:Nat)(v:Value)(W:World):Prop:=
 match i with
 |0=>v=.pointer (some ⟨b,0,none⟩)
 |1=>v=.pointer (some ⟨p,0,none⟩)
 |2=>v=.int .i64 (r:Int)
 |3=>v=.int .u8 ((UInt8.ofNat r).toNat:Int)
 |4=>RowV [UInt8.ofNat r] v W
 |5=>v=.int .i64 (x:Int)
 |6=>RowV (Da.bQ x) v W
 |7=>RbV [[UInt8.ofNat r],Da.bQ x] v W
 |8=>v=.agg (bytesV (Da.eX k (UInt8.ofNat r::Da.bQ x))).toArray
 |9=>∃g,v=.pointer (some ⟨g,0,none⟩)/\base<=g/\W.heap[g]? =some (.cells Z 44 (0,0))
 |_=>True
theorem SuG.later{k:BL}{r x:Nat}{b p:Nat}{Z:Array Value}{base:Nat}(i:Nat)(u:Value)(v v':World)(h:SuG k r x b p Z base i u v)(hb:Below v.heap.size v v'):SuG k r x b p Z base i u v':=by
 unfold SuG at*;split at h
 ·exact h
 ·exact h
 ·exact h
 ·exact h
 ·exact h.later hb
 ·exact h
 ·exact h.later hb
 ·exact h.later hb
 ·exact h
 ·obtain⟨g,e,hg,hh⟩:=h;exact⟨g,e,hg,by rw[hb.block _ (aE.1 hh).1];exact hh⟩
 ·trivial
def aAC(l:BL)(w:World)(s i:Value)(wr:World):Prop:=
 ∃j:Nat,j<=8/\i=.int .i64 j/\s=.int .i64 (wrap64 (Da.nbe (l.take j):Nat))/\Below w.heap.size w wr
theorem Qr(Z:Array Value)(hZ:Z=(bytesV (List.replicate 32 0)).toArray)(hzs:∀w,Sem.run Tryz.prog (zeroValue 44) w=.ok (.agg Z) w)(k:BL)(p m:Nat)(h10:m<=10)(r:Nat)(hr:r<256)(x:Nat)(w:World)(hA:Arr w p 179 (bytesV (Da.fil k)))(hV:Cds w):
  Calls Tryz.prog 139 #[.agg #[.pointer (some ⟨p,0,none⟩),.int .i64 (m:Int)],.int .i64 (r:Int),.int .i64 (x:Int)] w fun e w'=>e=.returned (.int .i64 ((Da.mx k m r x:Nat):Int))/\Below w.heap.size w w':=by
 have hmf:= @makes Tryz.prog;obtain⟨b,hbe⟩:=qM w.heap.size;obtain⟨W1,hW1⟩:=qM (w.alloc (.cells #[.pointer (some ⟨p,0,none⟩),.int .i64 (m:Int)] 173));have hb1:Below w.heap.size w W1:=by rw[<-hW1];exact qB.alloc qN _
 have hA1:Arr W1 b 173 [.pointer (some ⟨p,0,none⟩),.int .i64 (m:Int)]:=by rw[<-hW1,<-hbe];exact Arr.made _ _ _
 have HA1:=Lh hA1;have HB1:=Lh hb1;have HE:=Lh hbe;have HW1:=Lh hW1;have HA:=Lh (hA.later hb1 hA.lt);have HV:=Lh (hV.later hb1);obtain⟨H,hH⟩:=qM (Da.eX k (UInt8.ofNat r::Da.bQ x));have hHl:H.length=32:=by rw[<-hH];exact Da.ay _ _
 have HH:=Lh hH;have HHL:=Lh hHl;clear hb1 hA1 hbe hW1 hA hV hH hHl;go_enter Tryz.func139,Tryz.ntmps139
 go_wp2_with (first|rw[HW1.out,HE.out])
 refine Code.wp_mono (Q:=fun e b' v=>e=.normal/\∃(g:Nat)(f:Nat->Value),w.heap.size<=g/\Below W1.heap.size W1 v/\Arr v g 44 (bytesV H)/\b'={tmps:=#[.agg #[.pointer (some ⟨p,0,none⟩),.int .i64 (m:Int)],.int .i64 (r:Int),.int .i64 (x:Int),.pointer (some ⟨b,0,none⟩),f 4,f 5,.int .i64 0,.pointer (some ⟨g,0,none⟩),f 8,f 9,f 10,f 11,f 12,f 13,f 14,f 15,f 16,f 17,f 18,f 19,f 20,f 21,f 22,f 23,f 24,f 25,f 26,f 27,f 28,f 29,f 30,f 31,f 32,f 33,f 34],defers:=[]}) ?rest ?reg
 case reg=>
  have hr8:(UInt8.ofNat r).toNat=r:=by rw[UInt8.toNat_ofNat'];omega
  refine Rg.xg qK (fun i=>decide (i<10)) (SuG k r x b p Z W1.heap.size) qK SuG.later ?step ?fin
  case step=>
   intro i op b' v hE ho hb hrest hdep;have hi:=(aE.1 ho).1;have r3:b'.eval (.tmp 3)=.pointer (some ⟨b,0,none⟩):=hrest 3 (Rg.bH qK);have r1:b'.eval (.tmp 1)=.int .i64 (r:Int):=hrest 1 (Rg.bH qK);have r2:b'.eval (.tmp 2)=.int .i64 (x:Int):=hrest 2 (Rg.bH qK)
   match i,hi with
   |0,_=>
    obtain rfl:=Option.some.inj ho;refine Rg.aJ (.pointer (some ⟨b,0,none⟩)) ?_ rfl;have f1:b'.tmps[3]?.getD undef=_:=(show _=b'.eval (.tmp 3) by simp[Act.eval]).trans r3;simp only[execOp];go_simp
   |1,_=>
    obtain rfl:=Option.some.inj ho;have d1:b'.eval (.tmp 11)=.pointer (some ⟨b,0,none⟩):=hdep ⟨0,.data⟩ qS rfl rfl _ _ rfl rfl;have f1:b'.tmps[11]?.getD undef=_:=(show _=b'.eval (.tmp 11) by simp[Act.eval]).trans d1;have hc:v.cell? ⟨b,0,none⟩=some (.pointer (some ⟨p,0,none⟩)):=(HA1.out.later hb HA1.out.lt).cell 0;refine Rg.aJ (.pointer (some ⟨p,0,none⟩)) ?_ rfl;simp only[execOp];go_simp
   |2,_=>
    obtain rfl:=Option.some.inj ho;exact Rg.aP rfl r1
   |3,_=>
    obtain rfl:=Option.some.inj ho;have d1:b'.eval (.tmp 13)=.int .i64 (r:Int):=hdep ⟨2,.data⟩ qS rfl rfl _ _ rfl rfl;have f1:b'.tmps[13]?.getD undef=_:=(show _=b'.eval (.tmp 13) by simp[Act.eval]).trans d1;have hw8:IntKind.u8.wrap (r:Int)=(r:Int):=by rw[IntKind.wrap_u8];omega
    refine Rg.aJ (.int .u8 (r:Int)) ?_ (by show Value.int .u8 (r:Int)=.int .u8 ((UInt8.ofNat r).toNat:Int);rw[hr8]);simp only[execOp];go_simp
   |4,_=>
    obtain rfl:=Option.some.inj ho;have d1:b'.eval (.tmp 14)=.int .u8 ((UInt8.ofNat r).toNat:Int):=hdep ⟨3,.data⟩ qS rfl rfl _ _ rfl rfl;have f1:b'.tmps[14]?.getD undef=_:=(show _=b'.eval (.tmp 14) by simp[Act.eval]).trans d1;have hrun:RowV [UInt8.ofNat r] (.slice (some ⟨v.heap.size,0,none⟩) 1 1) (v.alloc (.cells #[.int .u8 ((UInt8.ofNat r).toNat:Int)] 5)):=⟨_,1,rfl,kR v (UInt8.ofNat r)⟩;obtain⟨y,hy⟩:∃y:Int,((UInt8.ofNat r).toNat:Int)=y:=⟨_,rfl⟩;rw[hy]at f1 hrun;refine Rg.gt (v':=v.alloc (.cells #[.int .u8 y] 5)) (.slice (some ⟨v.heap.size,0,none⟩) 1 1) ?_ hrun (qB.alloc qN _);simp only[execOp];go_simp
   |5,_=>
    obtain rfl:=Option.some.inj ho;exact Rg.aP rfl r2
   |6,_=>
    obtain rfl:=Option.some.inj ho;have d1:b'.eval (.tmp 16)=.int .i64 (x:Int):=hdep ⟨5,.data⟩ qS rfl rfl _ _ rfl rfl;exact Rg.eI rfl (enters_of Tryz.func91 qK rfl) (args:=#[b'.eval (.tmp 16)]) qS (t7 d1)
   |7,_=>
    obtain rfl:=Option.some.inj ho;have d1:RowV [UInt8.ofNat r] (b'.eval (.tmp 15)) v:=hdep ⟨4,.data⟩ qS rfl rfl _ _ rfl rfl;have d2:RowV (Da.bQ x) (b'.eval (.tmp 17)) v:=hdep ⟨6,.data⟩ qS rfl rfl _ _ rfl rfl;have f1:b'.tmps[15]?.getD undef=b'.eval (.tmp 15):=by simp[Act.eval]
    have f2:b'.tmps[17]?.getD undef=b'.eval (.tmp 17):=by simp[Act.eval]
    generalize b'.eval (.tmp 15)=x1 at d1 f1;generalize b'.eval (.tmp 17)=x2 at d2 f2;obtain⟨o1,c1,rfl,hr1⟩:=d1;obtain⟨o2,c2,rfl,hr2⟩:=d2;have hrun:RbV [[UInt8.ofNat r],Da.bQ x] (.slice (some ⟨v.heap.size,0,none⟩) 2 2) (v.alloc (.cells #[.slice o1 [UInt8.ofNat r].length c1,.slice o2 (Da.bQ x).length c2] 22)):=⟨_,2,rfl,ie hr1 hr2⟩;obtain⟨n1,hn1⟩:∃n,[UInt8.ofNat r].length=n:=⟨_,rfl⟩;rw[hn1]at f1 hrun;refine Rg.gt (v':=v.alloc (.cells #[.slice o1 n1 c1,.slice o2 (Da.bQ x).length c2] 22)) (.slice (some ⟨v.heap.size,0,none⟩) 2 2) ?_ hrun (qB.alloc qN _);simp only[execOp];go_simp
   |8,_=>
    obtain rfl:=Option.some.inj ho;have d1:b'.eval (.tmp 12)=.pointer (some ⟨p,0,none⟩):=hdep ⟨1,.data⟩ qS rfl rfl _ _ rfl rfl;have d2:RbV [[UInt8.ofNat r],Da.bQ x] (b'.eval (.tmp 18)) v:=hdep ⟨7,.data⟩ qS rfl rfl _ _ rfl rfl;have hk:=G3 (HA.out.later hb HA.out.lt) d1 d2 (HV.out.later hb) (by simp[Da.a8]) qS;rw[show[[UInt8.ofNat r],Da.bQ x].flatten=UInt8.ofNat r::Da.bQ x by simp]at hk;exact Rg.eI rfl (enters_of Tryz.func95 qK rfl) (args:=#[b'.eval (.tmp 12),b'.eval (.tmp 18)]) qS hk
   |9,_=>
    obtain rfl:=Option.some.inj ho;refine Rg.gt (v':=v.alloc (.cells Z 44)) (.pointer (some ⟨v.heap.size,0,none⟩)) ?_ ⟨_,rfl,hb.size,World.alloc_heap_new _ _⟩ (qB.alloc qN _);simp only[execOp];go_simp
   |10,_=>exact absurd hE qD
   |m+11,h=>exact absurd h qS
  case fin=>
   intro b' v hb hs hd hrest hall;have r0:b'.tmps.getD 0 undef=.agg #[.pointer (some ⟨p,0,none⟩),.int .i64 (m:Int)]:=hrest 0 (Rg.bH qK);have r1:b'.tmps.getD 1 undef=.int .i64 (r:Int):=hrest 1 (Rg.bH qK);have r2:b'.tmps.getD 2 undef=.int .i64 (x:Int):=hrest 2 (Rg.bH qK);have r3:b'.tmps.getD 3 undef=.pointer (some ⟨b,0,none⟩):=hrest 3 (Rg.bH qK);have r6:b'.tmps.getD 6 undef=.int .i64 0:=hrest 6 (Rg.bH qK);obtain⟨g,e7,hg,hh⟩:=hall 9 _ 7 rfl rfl rfl;have e19:b'.tmps.getD 19 undef=.agg (bytesV (Da.eX k (UInt8.ofNat r::Da.bQ x))).toArray:=hall 8 _ 19 rfl rfl rfl;rw[HH.out]at e19;have hHl:=HHL.out;change wpAnyH _ _ _ _ _ 1 _ _ _;refine wpAnyH_all (rs:=[10]) qK qS (fun i hi=>?_);obtain rfl:i=10:=by simpa using hi
   refine Rg.rI (g:=g) rfl rfl rfl e7 e19 hh (by rw[bJ];simp[hHl]) (by rw[hZ];simp[hHl]) (all_oneCell_toArray (aG _)) ⟨trivial,?_⟩;refine wpAnyH_done qK ?_ _;refine⟨rfl,g,fun i=>b'.tmps.getD i undef,Nat.le_trans HB1.out.size hg,hb.trans (aA hg),setRow_heap _ _ _ _ _ _ hh,?_⟩;have e:=Rg.Mi b'.tmps 35 hs;obtain⟨tm,df⟩:=b';obtain rfl:df=[]:=hd;dsimp only at r0 r1 r2 r3 r6 e7 e⊢;show({tmps:=tm,defers:=[]}:Act)=_;congr 1
   refine e.trans ?_;rw[<-r0,<-r1,<-r2,<-r3,<-r6,<-e7];rfl
 case rest=>
  rintro e a' W2 ⟨rfl,g,f,hg,hb2,hd,rfl⟩;rename_i K0 hK0;show K0 _ _;refine hK0 _ _ ?_;clear hK0 K0;have hr:RowIs W2 (some ⟨g,0,none⟩) (bytesV (H.take 8)) 8:=by
   have h32:=hd.row (by rw[HHL.out];unfold maxLen;decide);have:=h32.part 0 8 (by simp[HHL.out]) 8 qN (by unfold maxLen;decide);simpa[bytesV,List.map_take]using this
  have HR:=Lh hr;have HD:=Lh hd;have HB2:=Lh (Ks HB1.out hb2);have HA2:=Lh (HA1.out.later hb2 HA1.out.lt);have HGL:=Lh hg;clear hr hb2 hd hg;go_wp2_with fail;go_loopw [8,22] (fun s i wr=>aAC H W2 s i wr) (fun _ i _=>8-(intOf i).toNat)
  case atStart=>exact⟨0,qO,rfl,by rw[Da.Mj,wk],Below.refl _ _⟩
  case round=>
   obtain⟨j,hj,rfl,rfl,hB⟩:=hrel;by_cases hlt:j<8
   ·have hc:wr.cell? ⟨g,j,none⟩=some (.int .u8 ((H.getD j 0).toNat:Int)):=by
     rw[(HD.out.later hB HD.out.lt).cell];exact aB H j (by rw[HHL.out];omega)
    have hst:=Da.ni H j (by rw[HHL.out];omega);obtain⟨s,hs⟩:=qM (Da.nbe (H.take j));obtain⟨y,hy⟩:=qM ((H.getD j 0).toNat);have hyl:y<256:=by rw[<-hy];exact UInt8.toNat_lt _
    rw[hs,hy]at hst;rw[hy]at hc;rw[hs];have h2:IntKind.i64.wrap (y:Int)=(y:Int):=by rw[IntKind.wrap_i64];omega
    have HSB:=Lh (NB s y hyl);obtain⟨S,hS⟩:=qM (wrap64 (s:Int));rw[hS]at HSB⊢;have HB:=Lh hB;have HST:=Lh hst;clear hB hst hs hy hS;go_wp2_with fail;exact⟨⟨j+1,qO,rfl,by rw[HST.out,<-HSB.out],HB.out⟩,by simp[intOf];omega⟩
   ·obtain rfl:j=8:=qO;have HB:=Lh hB;have LO:=Lh (BR p m h10 (wrap64 (Da.nbe (H.take 8):Nat)) wr);rw[ND _ m h10,<-HH.out]at LO;have LO':Hid (Calls Tryz.prog 170 #[.agg #[.pointer (some ⟨p,0,none⟩),.int .i64 (m:Int)],.int .i64 (wrap64 (Da.nbe (H.take 8):Nat))] wr fun e w'=>e=.returned (.int .i64 ((Da.mx k m r x:Nat):Int))/\Below wr.heap.size wr w'):=Lh (by rw[<-HH.out];exact LO.out);obtain⟨S,hS⟩:=qM (wrap64 (Da.nbe (H.take 8):Nat));rw[hS]at LO'⊢;have HLD:Hid (wr.heap[b]? =some (.cells #[.pointer (some ⟨p,0,none⟩),.int .i64 (m:Int)] 173 (0,0))):=Lh (HA2.out.later hB HA2.out.lt);clear hB hS LO;go_wp2_with (first|refine wpList_load_row rfl 173 (.tmp 3) rfl b rfl 173 #[.pointer (some ⟨p,0,none⟩),.int .i64 (m:Int)] (0,0) _ HLD.out Tryz.underlying173 rfl eP ?_)
    refine LO'.out.mono ?_;rintro e W3 ⟨rfl,hb3⟩;go_wp2_with fail;go_ret;exact⟨rfl,Ks (Ks HB2.out HB.out) hb3⟩
theorem BS(k:BL)(p m:Nat)(h10:m<=10)(r:Nat)(hr:r<256)(x:Nat)(w:World)(hA:Arr w p 179 (bytesV (Da.fil k)))(hV:Cds w):
  Calls Tryz.prog 139 #[.agg #[.pointer (some ⟨p,0,none⟩),.int .i64 (m:Int)],.int .i64 (r:Int),.int .i64 (x:Int)] w fun e w'=>e=.returned (.int .i64 ((Da.mx k m r x:Nat):Int))/\Below w.heap.size w w':=
 Qr _ rfl dg_zero k p m h10 r hr x w hA hV
def Qu(k:BL)(m:Nat)(q:Nat×Nat)(w:World)(a b i:Value)(wr:World):Prop:=
 ∃j:Nat,j<=4/\i=.int .i64 j/\a=.int .i64 ((Da.iI k m j q).1:Nat)/\b=.int .i64 ((Da.iI k m j q).2:Nat)/\Below w.heap.size w wr
def Xu(k:BL)(m:Nat)(q:Nat×Nat)(w:World)(a b i:Value)(wr:World):Prop:=
 ∃(j:Nat)(u:Nat×Nat),j<=4/\i=.int .i64 ((j:Int)-1)/\a=.int .i64 (u.1:Nat)/\b=.int .i64 (u.2:Nat)/\Da.Hv m u/\Da.rJ k m j u=Da.rJ k m 4 q/\Below w.heap.size w wr
theorem Qv(k:BL)(p m:Nat)(h10:m<=10)(x:Nat)(hx:x<4^m)(w:World)(hA:Arr w p 179 (bytesV (Da.fil k)))(hV:Cds w):
  Calls Tryz.prog 89 #[.agg #[.pointer (some ⟨p,0,none⟩),.int .i64 (m:Int)],.int .i64 (x:Int)] w fun e w'=>e=.returned (.int .i64 ((Da.son k m x:Nat):Int))/\Below w.heap.size w w':=by
 obtain⟨b,hbe⟩:=qM w.heap.size;obtain⟨W1,hW1⟩:=qM (w.alloc (.cells #[.pointer (some ⟨p,0,none⟩),.int .i64 (m:Int)] 173));have hb1:Below w.heap.size w W1:=by rw[<-hW1];exact qB.alloc qN _
 have hA1:Arr W1 b 173 [.pointer (some ⟨p,0,none⟩),.int .i64 (m:Int)]:=by rw[<-hW1,<-hbe];exact Arr.made _ _ _
 have HA1:=Lh hA1;have HB1:=Lh hb1;have HE:=Lh hbe;have HW1:=Lh hW1;have HA:=Lh (hA.later hb1 hA.lt);have HV:=Lh (hV.later hb1);have HLD:Hid (W1.heap[b]? =some (.cells #[.pointer (some ⟨p,0,none⟩),.int .i64 (m:Int)] 173 (0,0))):=Lh hA1;have HQ:=Lh (Da.mV hx);have PA:=Lh (xo p m h10 x W1);have HX:Hid (Da.son k m x=(Da.iI k m 4 (Da.fI m x)).1*2^m+(Da.iI k m 4 (Da.fI m x)).2):=Lh rfl;have HX0:Hid (∀wr,Below w.heap.size w wr->Qu k m (Da.fI m x) w (.int .i64 ((x / 2^m:Nat):Int)) (.int .i64 ((x % 2^m:Nat):Int)) (.int .i64 0) wr):=Lh (fun wr hb=>⟨0,qO,rfl,rfl,rfl,hb⟩);obtain⟨R1,hR1⟩:∃R,((x / 2^m:Nat):Int)=R:=⟨_,rfl⟩;obtain⟨R2,hR2⟩:∃R,((x % 2^m:Nat):Int)=R:=⟨_,rfl⟩;rw[hR1,hR2]at PA HX0;clear hb1 hA1 hbe hW1 hA hV hx hR1 hR2;go_enter Tryz.func89,Tryz.ntmps89
 go_wp2_with (first|rw[HW1.out,HE.out]|refine wpList_load_row rfl 173 (.tmp 2) rfl b rfl 173 #[.pointer (some ⟨p,0,none⟩),.int .i64 (m:Int)] (0,0) _ HLD.out Tryz.underlying173 rfl eP ?_)
 refine PA.out.mono ?_;rintro e W2 ⟨rfl,hb2⟩;have HB12:=Lh hb2;have HB2:=Lh (Ks HB1.out hb2);clear hb2 PA HLD;go_wp2_with fail;go_loopw [5,6,14] (fun a b i wr=>Qu k m (Da.fI m x) w a b i wr/\Below W1.heap.size W1 wr) (fun _ _ i _=>4-(intOf i).toNat)
 case atStart=>exact⟨HX0.out W2 HB2.out,HB12.out⟩
 case round=>
  obtain⟨⟨j,hj,rfl,rfl,rfl,hB⟩,hB'⟩:=hrel;have hv:=HQ.out.rnds k j;have HN:Hid (Da.iI k m (j+1) (Da.fI m x)=((Da.iI k m j (Da.fI m x)).2,(Da.iI k m j (Da.fI m x)).1^^^Da.mx k m j (Da.iI k m j (Da.fI m x)).2)):=Lh rfl;have hXJ:j=4->Da.son k m x=(Da.iI k m j (Da.fI m x)).1*2^m+(Da.iI k m j (Da.fI m x)).2:=fun h=>by rw[h];exact HX.out
  obtain⟨⟨a,c⟩,hac⟩:∃u,Da.iI k m j (Da.fI m x)=u:=⟨_,rfl⟩;rw[hac]at hv HN hXJ⊢;obtain⟨ha,hc⟩:=hv;dsimp only at ha hc HN hXJ⊢;have HLD:Hid (wr.heap[b]? =some (.cells #[.pointer (some ⟨p,0,none⟩),.int .i64 (m:Int)] 173 (0,0))):=Lh (HA1.out.later hB' HA1.out.lt);have HB:=Lh hB;have HB':=Lh hB';have hb2:=qE h10;clear hB hB' hac;by_cases hlt:j<4
  ·have MX:=Lh (BS k p m h10 j qO c wr (HA.out.later HB'.out HA.out.lt) (HV.out.later HB'.out));have hml:=Da.G5 k m j c;obtain⟨y,hy⟩:=qM (Da.mx k m j c);rw[hy]at MX HN hml;have HXO:=Lh (zA a y qO qO);clear hy hml ha hc hb2 hXJ;go_wp2_with (first|refine wpList_load_row rfl 173 (.tmp 2) rfl b rfl 173 #[.pointer (some ⟨p,0,none⟩),.int .i64 (m:Int)] (0,0) _ HLD.out Tryz.underlying173 rfl eP ?_)
   refine MX.out.mono ?_;rintro e W3 ⟨rfl,hb3⟩;have HB3:=Lh (Ks HB.out hb3);have HB3':=Lh (Ks HB'.out hb3);clear hb3 MX;go_wp2_with fail;exact⟨⟨⟨j+1,qO,by rfl,by rw[HN.out],by rw[HN.out,HXO.out],HB3.out⟩,HB3'.out⟩,by simp[intOf];omega⟩
  ·obtain rfl:j=4:=qO;have JO:=Lh (xp p m h10 a c ha hc wr);rw[<-hXJ rfl]at JO;clear ha hc hb2 hXJ;go_wp2_with (first|refine wpList_load_row rfl 173 (.tmp 2) rfl b rfl 173 #[.pointer (some ⟨p,0,none⟩),.int .i64 (m:Int)] (0,0) _ HLD.out Tryz.underlying173 rfl eP ?_)
   refine JO.out.mono ?_;rintro e W3 ⟨rfl,hb3⟩;go_wp2_with fail;go_ret;exact⟨rfl,Ks HB.out hb3⟩
theorem Qw(k:BL)(p m:Nat)(h10:m<=10)(x:Nat)(hx:x<4^m)(w:World)(hA:Arr w p 179 (bytesV (Da.fil k)))(hV:Cds w):
  Calls Tryz.prog 143 #[.agg #[.pointer (some ⟨p,0,none⟩),.int .i64 (m:Int)],.int .i64 (x:Int)] w fun e w'=>e=.returned (.int .i64 ((Da.sbk k m x:Nat):Int))/\Below w.heap.size w w':=by
 obtain⟨b,hbe⟩:=qM w.heap.size;obtain⟨W1,hW1⟩:=qM (w.alloc (.cells #[.pointer (some ⟨p,0,none⟩),.int .i64 (m:Int)] 173));have hb1:Below w.heap.size w W1:=by rw[<-hW1];exact qB.alloc qN _
 have hA1:Arr W1 b 173 [.pointer (some ⟨p,0,none⟩),.int .i64 (m:Int)]:=by rw[<-hW1,<-hbe];exact Arr.made _ _ _
 have HA1:=Lh hA1;have HB1:=Lh hb1;have HE:=Lh hbe;have HW1:=Lh hW1;have HA:=Lh (hA.later hb1 hA.lt);have HV:=Lh (hV.later hb1);have HLD:Hid (W1.heap[b]? =some (.cells #[.pointer (some ⟨p,0,none⟩),.int .i64 (m:Int)] 173 (0,0))):=Lh hA1;have PA:=Lh (xo p m h10 x W1);have HX:Hid (Da.sbk k m x=(Da.rJ k m 4 (Da.fI m x)).1*2^m+(Da.rJ k m 4 (Da.fI m x)).2):=Lh rfl;have HX0:Hid (∀wr,Below w.heap.size w wr->Xu k m (Da.fI m x) w (.int .i64 ((x / 2^m:Nat):Int)) (.int .i64 ((x % 2^m:Nat):Int)) (.int .i64 3) wr):=Lh (fun wr hb=>⟨4,Da.fI m x,qO,rfl,rfl,rfl,Da.mV hx,rfl,hb⟩);obtain⟨R1,hR1⟩:∃R,((x / 2^m:Nat):Int)=R:=⟨_,rfl⟩;obtain⟨R2,hR2⟩:∃R,((x % 2^m:Nat):Int)=R:=⟨_,rfl⟩;rw[hR1,hR2]at PA HX0;clear hb1 hA1 hbe hW1 hA hV hx hR1 hR2;go_enter Tryz.func143,Tryz.ntmps143
 go_wp2_with (first|rw[HW1.out,HE.out]|refine wpList_load_row rfl 173 (.tmp 2) rfl b rfl 173 #[.pointer (some ⟨p,0,none⟩),.int .i64 (m:Int)] (0,0) _ HLD.out Tryz.underlying173 rfl eP ?_)
 refine PA.out.mono ?_;rintro e W2 ⟨rfl,hb2⟩;have HB12:=Lh hb2;have HB2:=Lh (Ks HB1.out hb2);clear hb2 PA HLD;go_wp2_with fail;go_loopw [5,6,7] (fun a b i wr=>Xu k m (Da.fI m x) w a b i wr/\Below W1.heap.size W1 wr) (fun _ _ i _=>(intOf i+1).toNat)
 case atStart=>exact⟨HX0.out W2 HB2.out,HB12.out⟩
 case round=>
  obtain⟨⟨j,⟨a,c⟩,hj,rfl,rfl,rfl,⟨ha,hc⟩,hun,hB⟩,hB'⟩:=hrel;dsimp only at ha hc⊢;have HLD:Hid (wr.heap[b]? =some (.cells #[.pointer (some ⟨p,0,none⟩),.int .i64 (m:Int)] 173 (0,0))):=Lh (HA1.out.later hB' HA1.out.lt);have HB:=Lh hB;have HB':=Lh hB';have HUN:=Lh hun;have hb2:=qE h10;clear hB hB' hun;by_cases hlt:0<j
  ·obtain⟨r,rfl⟩:∃r,j=r+1:=⟨j-1,qO⟩;have hi:((r+1:Nat):Int)-1=(r:Int):=qO;have hd1:decide ((r:Int)>=0)=true:=qS;rw[hi];have MX:=Lh (BS k p m h10 r qO a wr (HA.out.later HB'.out HA.out.lt) (HV.out.later HB'.out));have hml:=Da.G5 k m r a;have HHV:Hid (Da.Hv m (c^^^Da.mx k m r a,a)):=Lh (Da.Hv.unr (p:=(a,c)) ⟨ha,hc⟩ k r);have HU2:Hid (Da.rJ k m r (c^^^Da.mx k m r a,a)=Da.rJ k m 4 (Da.fI m x)):=Lh HUN.out;obtain⟨y,hy⟩:=qM (Da.mx k m r a);rw[hy]at MX HHV HU2 hml;have HXO:=Lh (zA c y qO qO);clear hy hml ha hc hb2 hi;go_wp2_with (first|refine wpList_load_row rfl 173 (.tmp 2) rfl b rfl 173 #[.pointer (some ⟨p,0,none⟩),.int .i64 (m:Int)] (0,0) _ HLD.out Tryz.underlying173 rfl eP ?_)
   refine MX.out.mono ?_;rintro e W3 ⟨rfl,hb3⟩;have HB3:=Lh (Ks HB.out hb3);have HB3':=Lh (Ks HB'.out hb3);clear hb3 MX;go_wp2_with fail;exact⟨⟨⟨r,_,qO,rfl,by rw[HXO.out],rfl,HHV.out,HU2.out,HB3.out⟩,HB3'.out⟩,by simp[intOf]⟩
  ·obtain rfl:j=0:=qO;have hd1:decide (((0:Nat):Int)-1>=0)=false:=qD;have JO:=Lh (xp p m h10 a c ha hc wr);have e:(a,c)=Da.rJ k m 4 (Da.fI m x):=HUN.out;have hXJ:Da.sbk k m x=a*2^m+c:=by rw[HX.out,<-e]
   rw[<-hXJ]at JO;clear ha hc hb2 hXJ e;go_wp2_with (first|refine wpList_load_row rfl 173 (.tmp 2) rfl b rfl 173 #[.pointer (some ⟨p,0,none⟩),.int .i64 (m:Int)] (0,0) _ HLD.out Tryz.underlying173 rfl eP ?_)
   refine JO.out.mono ?_;rintro e W3 ⟨rfl,hb3⟩;go_wp2_with fail;go_ret;exact⟨rfl,Ks HB.out hb3⟩
namespace Da
def inO(n:Nat)(i:Int):Bool:=decide (0<=i)&&decide (i<n)
def jI(f:Nat->Nat)(n M:Nat)(i:Int):Nat:=if inO n i then pl f n M i.toNat else 0
def iQ(n:Nat)(i:Int):Nat:=if inO n i then 0 else 1
theorem td{n:Nat}{i:Int}:inO n i=true↔0<=i/\i<n:=by simp[inO]
end Da
namespace Er
structure E11(W:World)(A:Nat->Addr):Prop where
 c0:W.cell? ⟨2,0,none⟩=some (.iface 302 (.pointer (some (A 0))))
theorem E11.later{W W':World}{A:Nat->Addr}(h:E11 W A)(hb:Below W.heap.size W W'):E11 W' A:=⟨cell_later h.c0 hb⟩
end Er
theorem Iy(n:Int)(p:Nat)(m:Int): Tryz.prog.built 175 [(0,.int .i64 n),(1,.agg #[.pointer (some ⟨p,0,none⟩),.int .i64 m])]=some #[.int .i64 n,.pointer (some ⟨p,0,none⟩),.int .i64 m]:=qK
def OrdAt(W:World)(g p:Nat)(k:BL)(n:Nat):Prop:=
 Arr W g 175 [.int .i64 (n:Int),.pointer (some ⟨p,0,none⟩),.int .i64 (Da.bw n:Nat)]/\Arr W p 179 (bytesV (Da.fil k))
theorem OrdAt.later{W W':World}{g p:Nat}{k:BL}{n:Nat}(h:OrdAt W g p k n)(hb:Below W.heap.size W W'):OrdAt W' g p k n:=⟨h.1.later hb h.1.lt,h.2.later hb h.2.lt⟩
theorem OrdAt.size{W:World}{g p:Nat}{k:BL}{n:Nat}(h:OrdAt W g p k n):W.cell? ⟨g,0,none⟩=some (.int .i64 (n:Int)):=h.1.cell 0
theorem OrdAt.bits{W:World}{g p:Nat}{k:BL}{n:Nat}(h:OrdAt W g p k n):W.cell? ⟨g,2,none⟩=some (.int .i64 (Da.bw n:Nat)):=h.1.cell 2
theorem OrdAt.steps{W:World}{g p:Nat}{k:BL}{n:Nat}(h:OrdAt W g p k n):W.rangeAt g 1 [.pointer (some ⟨p,0,none⟩),.int .i64 (Da.bw n:Nat)]:=
 h.1.range 1 _ fun j v hv=>by
  rw[show 1+j=j+1 by omega,List.getElem?_cons_succ];exact hv
theorem BU(k:BL)(o:Option Addr)(c:Nat)(n:Nat)(hn1:1<=n)(hn2:n<=1048576)(w:World)(hR:RowIs w o (bytesV k) c)(hV:Cds w)(hl:k.length<=900000):
  Calls Tryz.prog 80 #[.slice o k.length c,.int .i64 (n:Int)] w fun e w'=>∃g p,e=.returned (.tuple #[.pointer (some ⟨g,0,none⟩),.nilIface])/\OrdAt w' g p k n/\Below w.heap.size w w':=by
 have SB:=Lh (Iw n hn2 w);have SO:=Lh (Qo k o c (Da.bw n) w hR hV hl);have hd1:decide ((n:Int)<1)=false:=by simp;omega
 have hd2:decide ((n:Int)>1048576)=false:=by simp;omega
 obtain⟨m,hm⟩:=qM (Da.bw n);rw[hm]at SB SO;have HM:=Lh hm;clear hR hV hm;go_enter Tryz.func80,Tryz.ntmps80
 go_wp2_with fail;refine SB.out.mono ?_;rintro e w1 ⟨rfl,rfl⟩;go_wp2_with fail;refine SO.out.mono ?_;rintro e W2 ⟨p,rfl,hk,hb2⟩;obtain⟨g,hg⟩:=qM W2.heap.size;obtain⟨W3,hW3⟩:=qM (W2.alloc (.cells #[.int .i64 (n:Int),.pointer (some ⟨p,0,none⟩),.int .i64 (m:Int)] 175));have hA3:Arr W3 g 175 [.int .i64 (n:Int),.pointer (some ⟨p,0,none⟩),.int .i64 (m:Int)]:=by rw[<-hW3,<-hg];exact Arr.made _ _ _
 have hb3:Below W2.heap.size W2 W3:=by rw[<-hW3];exact qB.alloc qN _
 have HO:Hid (OrdAt W3 g p k n):=Lh ⟨by rw[HM.out];exact hA3,hk.later hb3 hk.lt⟩;have HB:=Lh (Ks hb2 hb3);have HW3:=Lh hW3;have HG:=Lh hg;clear hk hb2 hb3 hA3 hg hW3 SO;go_wp2_with (first|rw[HW3.out,HG.out]|refine bN rfl 175 _ rfl [(0,.int .i64 (n:Int)),(1,.agg #[.pointer (some ⟨p,0,none⟩),.int .i64 (m:Int)])] (by simp;rfl) _ (Iy (n:Int) p (m:Int)) ?_)
 refine bodyPost_ret (results_tmp2 rfl _ _ _) rfl ?_;exact⟨g,p,rfl,HO.out,HB.out⟩
theorem xq(g p:Nat)(k:BL)(n:Nat)(w:World)(hO:OrdAt w g p k n):Calls Tryz.prog 131 #[.pointer (some ⟨g,0,none⟩)] w fun e w'=>e=.returned (.int .i64 (n:Int))/\w'=w:=by
 have hc:=hO.size;clear hO;go_enter Tryz.func131,Tryz.ntmps131
 go_wp2_with fail;go_ret;exact⟨rfl,rfl⟩
def mX(f:Nat->Nat)(n M T:Nat)(w:World)(i:Value)(wr:World):Prop:=
 ∃y d:Nat,i=.int .i64 (y:Int)/\y<M/\d<=M/\Da.Hit f n d y/\Da.it f d y=T/\Below w.heap.size w wr
theorem xt(g p:Nat)(k:BL)(n:Nat)(hn:n<=1048576)(x:Nat)(hx:x<n)(w:World)(hO:OrdAt w g p k n)(hV:Cds w):
  Calls Tryz.prog 133 #[.pointer (some ⟨g,0,none⟩),.func (.func 89) #[.agg #[.pointer (some ⟨p,0,none⟩),.int .i64 (Da.bw n:Nat)]] #[],.int .i64 (x:Int)] w fun e w'=>e=.returned (.int .i64 ((Da.pl (Da.son k (Da.bw n)) n (4^Da.bw n) x:Nat):Int))/\Below w.heap.size w w':=by
 have HO:=Lh hO;have HV:=Lh hV;have hm10:=(Da.Mx n hn).2;have hnM:=Da.vR n hn;obtain⟨m,hm⟩:=qM (Da.bw n);have HM:=Lh hm;rw[hm]at hm10 hnM⊢;have hp:Da.Perm (4^m) (Da.son k m) (Da.sbk k m):=Da.vP k m;obtain⟨H,hM⟩:=hp.hit n x hx hnM;have ST:Hid (∀(y:Nat),y<4^m->∀v,Below w.heap.size w v->Calls Tryz.prog 89 #[.agg #[.pointer (some ⟨p,0,none⟩),.int .i64 (m:Int)],.int .i64 (y:Int)] v fun e w'=>e=.returned (.int .i64 ((Da.son k m y:Nat):Int))/\Below v.heap.size v w'):=
  Lh (fun y hy v hb=>Qv k p m hm10 y hy v (HO.out.later hb).2 (HV.out.later hb))
 have hFT:∀y,y<4^m->Da.son k m y<4^m:=hp.flt;have hxM:x<4^m:=qO;obtain⟨T,hT⟩:=qM (Da.pl (Da.son k m) n (4^m) x);have hit0:Da.it (Da.son k m) (Da.dst (Da.son k m) n (4^m) (Da.son k m x)) (Da.son k m x)=T:=hT;obtain⟨f,hf⟩:=qM (Da.son k m);rw[hT];rw[hf]at H hM ST hFT hit0;obtain⟨M,hMM⟩:=qM (4^m);rw[hMM]at H hM ST hFT hit0 hxM;have HFT:=Lh hFT;obtain⟨d0,hd0⟩:∃d,Da.dst f n M (f x)=d:=⟨_,rfl⟩;rw[hd0]at H hM hit0;have HX0:Hid (∀wr,Below w.heap.size w wr->mX f n M T w (.int .i64 ((f x:Nat):Int)) wr):=Lh (fun wr hb=>⟨f x,d0,rfl,hFT x hxM,qO,H,hit0,hb⟩);have ST0:=Lh (ST.out x hxM w qB);obtain⟨x1,hx1⟩:=qM (f x);rw[hx1]at HX0 ST0;clear hO hV hm hnM hp H hM hFT hxM hT hit0 hf hMM hd0 hx1 hx hm10;go_enter Tryz.func133,Tryz.ntmps133
 go_wp2_with fail;refine ST0.out.mono ?_;rintro e W1 ⟨rfl,hb1⟩;have HB1:=Lh hb1;clear hb1 ST0;go_wp2_with fail;go_loopw [2] (fun i wr=>mX f n M T w i wr) (fun i _=>Da.dst f n M (intOf i).toNat)
 case atStart=>exact HX0.out W1 HB1.out
 case round=>
  obtain⟨y,d,rfl,hy,hd,hh,hi,hB⟩:=hrel;have hc:=(HO.out.later hB).size;by_cases hlt:y<n
  ·have hd1:decide ((y:Int)>=(n:Int))=false:=by simp;omega
   have he:y=T:=by
    have:=hh.here hlt;subst this;exact hi
   have HE:=Lh he;have HB:=Lh hB;clear hB hh hi he hy hd;go_wp2_with fail;go_ret;exact⟨by rw[<-HE.out];rfl,HB.out⟩
  ·have hd1:decide ((y:Int)>=(n:Int))=true:=by simp;omega
   have hdy:=hh.dst hd;obtain⟨d',rfl,hh'⟩:=hh.step qO;have hdf:=hh'.dst (q:=M) qO;have ST1:=Lh (ST.out y hy wr hB);have HNX:Hid (∀wr',Below w.heap.size w wr'->mX f n M T w (.int .i64 ((f y:Nat):Int)) wr'):=Lh (fun wr' hb=>⟨f y,d',rfl,HFT.out y hy,qO,hh',hi,hb⟩);have HDL:Hid (Da.dst f n M (f y)<Da.dst f n M y):=Lh (by rw[hdy,hdf];omega);obtain⟨y1,hy1⟩:=qM (f y);rw[hy1]at ST1 HNX HDL;have HB:=Lh hB;clear hB hh hi hy hd hdy hh' hdf hy1;go_wp2_with fail;refine ST1.out.mono ?_;rintro e W2 ⟨rfl,hb2⟩;have HB2:=Lh (Ks HB.out hb2);clear hb2 ST1;go_wp2_with fail;exact⟨HNX.out W2 HB2.out,by simp only[intOf,Int.toNat_natCast];exact HDL.out⟩
theorem JA(g p:Nat)(k:BL)(n:Nat)(hn:n<=1048576)(x:Nat)(hx:x<n)(w:World)(hO:OrdAt w g p k n)(hV:Cds w):
  Calls Tryz.prog 133 #[.pointer (some ⟨g,0,none⟩),.func (.func 143) #[.agg #[.pointer (some ⟨p,0,none⟩),.int .i64 (Da.bw n:Nat)]] #[],.int .i64 (x:Int)] w fun e w'=>e=.returned (.int .i64 ((Da.pl (Da.sbk k (Da.bw n)) n (4^Da.bw n) x:Nat):Int))/\Below w.heap.size w w':=by
 have HO:=Lh hO;have HV:=Lh hV;have hm10:=(Da.Mx n hn).2;have hnM:=Da.vR n hn;obtain⟨m,hm⟩:=qM (Da.bw n);have HM:=Lh hm;rw[hm]at hm10 hnM⊢;have hp:Da.Perm (4^m) (Da.sbk k m) (Da.son k m):=(Da.vP k m).symm;obtain⟨H,hM⟩:=hp.hit n x hx hnM;have ST:Hid (∀(y:Nat),y<4^m->∀v,Below w.heap.size w v->Calls Tryz.prog 143 #[.agg #[.pointer (some ⟨p,0,none⟩),.int .i64 (m:Int)],.int .i64 (y:Int)] v fun e w'=>e=.returned (.int .i64 ((Da.sbk k m y:Nat):Int))/\Below v.heap.size v w'):=
  Lh (fun y hy v hb=>Qw k p m hm10 y hy v (HO.out.later hb).2 (HV.out.later hb))
 have hFT:∀y,y<4^m->Da.sbk k m y<4^m:=hp.flt;have hxM:x<4^m:=qO;obtain⟨T,hT⟩:=qM (Da.pl (Da.sbk k m) n (4^m) x);have hit0:Da.it (Da.sbk k m) (Da.dst (Da.sbk k m) n (4^m) (Da.sbk k m x)) (Da.sbk k m x)=T:=hT;obtain⟨f,hf⟩:=qM (Da.sbk k m);rw[hT];rw[hf]at H hM ST hFT hit0;obtain⟨M,hMM⟩:=qM (4^m);rw[hMM]at H hM ST hFT hit0 hxM;have HFT:=Lh hFT;obtain⟨d0,hd0⟩:∃d,Da.dst f n M (f x)=d:=⟨_,rfl⟩;rw[hd0]at H hM hit0;have HX0:Hid (∀wr,Below w.heap.size w wr->mX f n M T w (.int .i64 ((f x:Nat):Int)) wr):=Lh (fun wr hb=>⟨f x,d0,rfl,hFT x hxM,qO,H,hit0,hb⟩);have ST0:=Lh (ST.out x hxM w qB);obtain⟨x1,hx1⟩:=qM (f x);rw[hx1]at HX0 ST0;clear hO hV hm hnM hp H hM hFT hxM hT hit0 hf hMM hd0 hx1 hx hm10;go_enter Tryz.func133,Tryz.ntmps133
 go_wp2_with fail;refine ST0.out.mono ?_;rintro e W1 ⟨rfl,hb1⟩;have HB1:=Lh hb1;clear hb1 ST0;go_wp2_with fail;go_loopw [2] (fun i wr=>mX f n M T w i wr) (fun i _=>Da.dst f n M (intOf i).toNat)
 case atStart=>exact HX0.out W1 HB1.out
 case round=>
  obtain⟨y,d,rfl,hy,hd,hh,hi,hB⟩:=hrel;have hc:=(HO.out.later hB).size;by_cases hlt:y<n
  ·have hd1:decide ((y:Int)>=(n:Int))=false:=by simp;omega
   have he:y=T:=by
    have:=hh.here hlt;subst this;exact hi
   have HE:=Lh he;have HB:=Lh hB;clear hB hh hi he hy hd;go_wp2_with fail;go_ret;exact⟨by rw[<-HE.out];rfl,HB.out⟩
  ·have hd1:decide ((y:Int)>=(n:Int))=true:=by simp;omega
   have hdy:=hh.dst hd;obtain⟨d',rfl,hh'⟩:=hh.step qO;have hdf:=hh'.dst (q:=M) qO;have ST1:=Lh (ST.out y hy wr hB);have HNX:Hid (∀wr',Below w.heap.size w wr'->mX f n M T w (.int .i64 ((f y:Nat):Int)) wr'):=Lh (fun wr' hb=>⟨f y,d',rfl,HFT.out y hy,qO,hh',hi,hb⟩);have HDL:Hid (Da.dst f n M (f y)<Da.dst f n M y):=Lh (by rw[hdy,hdf];omega);obtain⟨y1,hy1⟩:=qM (f y);rw[hy1]at ST1 HNX HDL;have HB:=Lh hB;clear hB hh hi hy hd hdy hh' hdf hy1;go_wp2_with fail;refine ST1.out.mono ?_;rintro e W2 ⟨rfl,hb2⟩;have HB2:=Lh (Ks HB.out hb2);clear hb2 ST1;go_wp2_with fail;exact⟨HNX.out W2 HB2.out,by simp only[intOf,Int.toNat_natCast];exact HDL.out⟩
theorem JB(g p:Nat)(k:BL)(n:Nat)(hn:n<=1048576)(i:Int)(A:Nat->Addr)(w:World)(hO:OrdAt w g p k n)(hV:Cds w)(hE:Er.E11 w A):
  Calls Tryz.prog 88 #[.pointer (some ⟨g,0,none⟩),.func (.func 143) #[.agg #[.pointer (some ⟨p,0,none⟩),.int .i64 (Da.bw n:Nat)]] #[],.int .i64 i] w fun e w'=>e=.returned (.tuple #[.int .i64 ((Da.jI (Da.sbk k (Da.bw n)) n (4^Da.bw n) i:Nat):Int),eD A (Da.iQ n i)])/\Below w.heap.size w w':=by
 have hE0:=hE.c0;have hc:=hO.size;by_cases h0:i<0
 ·have hd1:decide (i<0)=true:=by simp;omega
  have hin:Da.inO n i=false:=by simp[Da.inO];omega
  have HT:Hid (Da.jI (Da.sbk k (Da.bw n)) n (4^Da.bw n) i=0):=Lh (by unfold Da.jI;rw[hin];rfl);have hb:Da.iQ n i=1:=by unfold Da.iQ;rw[hin];rfl
  rw[HT.out,hb];obtain⟨m,hm⟩:∃m:Int,((Da.bw n:Nat):Int)=m:=⟨_,rfl⟩;rw[hm];clear hO hV hE hin hb HT hm;go_enter Tryz.func88,Tryz.ntmps88
  go_wp2_with fail;go_region
  go_wp2_with fail;refine bodyPost_ret (results_tmp2 rfl _ _ _) rfl ?_;exact⟨rfl,Kit.dn' _ 1⟩
 ·have hd1:decide (i<0)=false:=by simp;omega
  by_cases h1:i<n
  ·have hd2:decide (i>=(n:Int))=false:=by simp;omega
   have hin:Da.inO n i=true:=Da.td.2 ⟨qO,h1⟩;obtain⟨x,rfl⟩:∃x:Nat,i=(x:Int):=⟨i.toNat,qO⟩;have hd3:decide (n<=x)=false:=by simp;omega
   have CO:=JA g p k n hn x qO w hO hV;have ht:Da.pl (Da.sbk k (Da.bw n)) n (4^Da.bw n) x=Da.jI (Da.sbk k (Da.bw n)) n (4^Da.bw n) (x:Int):=by unfold Da.jI;rw[hin];rfl
   have hb:Da.iQ n (x:Int)=0:=by unfold Da.iQ;rw[hin];rfl
   rw[ht]at CO;rw[hb];obtain⟨T,hT⟩:=qM (Da.jI (Da.sbk k (Da.bw n)) n (4^Da.bw n) (x:Int));obtain⟨m,hm⟩:∃m:Int,((Da.bw n:Nat):Int)=m:=⟨_,rfl⟩;rw[hT,hm]at CO;rw[hT,hm];have HCO:=Lh CO;clear CO hO hV hE hin ht hb hT hm hE0 h0 h1;go_enter Tryz.func88,Tryz.ntmps88
   go_wp2_with fail;refine HCO.out.mono ?_;rintro e W1 ⟨rfl,hb1⟩;have HB1:=Lh hb1;clear hb1 HCO;go_wp2_with fail;refine bodyPost_ret (results_tmp2 rfl _ _ _) rfl ?_;exact⟨rfl,HB1.out⟩
  ·have hd2:decide (i>=(n:Int))=true:=by simp;omega
   have hin:Da.inO n i=false:=by simp[Da.inO];omega
   have HT:Hid (Da.jI (Da.sbk k (Da.bw n)) n (4^Da.bw n) i=0):=Lh (by unfold Da.jI;rw[hin];rfl);have hb:Da.iQ n i=1:=by unfold Da.iQ;rw[hin];rfl
   rw[HT.out,hb];obtain⟨m,hm⟩:∃m:Int,((Da.bw n:Nat):Int)=m:=⟨_,rfl⟩;rw[hm];clear hO hV hE hin hb HT hm;go_enter Tryz.func88,Tryz.ntmps88
   go_wp2_with fail;go_region
   go_wp2_with fail;refine bodyPost_ret (results_tmp2 rfl _ _ _) rfl ?_;exact⟨rfl,Kit.dn' _ 1⟩
theorem xu(g p:Nat)(k:BL)(n:Nat)(hn:n<=1048576)(i:Int)(A:Nat->Addr)(w:World)(hO:OrdAt w g p k n)(hV:Cds w)(hE:Er.E11 w A):
  Calls Tryz.prog 97 #[.pointer (some ⟨g,0,none⟩),.int .i64 i] w fun e w'=>e=.returned (.tuple #[.int .i64 ((Da.jI (Da.sbk k (Da.bw n)) n (4^Da.bw n) i:Nat):Int),eD A (Da.iQ n i)])/\Below w.heap.size w w':=by
 have hmf:= @makes Tryz.prog;have WA:=JB g p k n hn i A w hO hV hE;have hst:=hO.steps;obtain⟨m,hm⟩:∃m:Int,((Da.bw n:Nat):Int)=m:=⟨_,rfl⟩;obtain⟨T,hT⟩:∃T:Int,((Da.jI (Da.sbk k (Da.bw n)) n (4^Da.bw n) i:Nat):Int)=T:=⟨_,rfl⟩;rw[hT]at WA⊢;rw[hm]at WA hst;have HST:=Lh hst;have HWA:=Lh WA;clear WA hO hV hE hst hm hT;go_enter Tryz.func97,Tryz.ntmps97
 go_wp2_with (first|refine wpList_load_mid rfl 173 (.tmp 9) rfl g 1 rfl [.pointer (some ⟨p,0,none⟩),.int .i64 m] _ HST.out Tryz.underlying173 rfl eP ?_)
 refine HWA.out.mono ?_;rintro e W1 ⟨rfl,hb1⟩;have HB1:=Lh hb1;clear hb1 HWA;go_wp2_with fail;refine bodyPost_ret (results_tmp2 rfl _ _ _) rfl ?_;exact⟨rfl,HB1.out⟩
def Da.pto(k:BL)(n x:Nat):Nat:=pl (son k (bw n)) n (4^bw n) x
def Da.rK(k:BL)(n x:Nat):Nat:=pl (sbk k (bw n)) n (4^bw n) x
theorem Da.vS{k:BL}{n x:Nat}(hn:n<=1048576)(h:x<n):pto k n x<n:=(vP k (bw n)).pl_lt n x h (vR n hn)
theorem Da.NF{k:BL}{n x:Nat}(hn:n<=1048576)(h:x<n):rK k n x<n:=(vP k (bw n)).symm.pl_lt n x h (vR n hn)
theorem Da.sL{k:BL}{n x:Nat}(hn:n<=1048576)(h:x<n):rK k n (pto k n x)=x:=(vP k (bw n)).pl_back n x h (vR n hn)
theorem Da.xw{k:BL}{n x:Nat}(hn:n<=1048576)(h:x<n):pto k n (rK k n x)=x:=(vP k (bw n)).symm.pl_back n x h (vR n hn)
namespace Da
def rL(k:BL)(n j:Nat):List Value:=(List.range n).map fun q=>if q<j then .int .i64 (pto k n q:Nat)else .int .i64 0
@[simp] theorem Tx(k:BL)(n j:Nat):(rL k n j).length=n:=by simp[rL]
theorem JE(k:BL)(n:Nat):rL k n 0=List.replicate n (.int .i64 0):=by
 apply List.ext_getElem?;intro q;simp only[rL,List.getElem?_map,List.getElem?_replicate];by_cases h:q<n
 ·simp[h]
 ·simp[h]
theorem JF(k:BL)(n j:Nat):(rL k n j).set j (.int .i64 (pto k n j:Nat))=rL k n (j+1):=by
 apply List.ext_getElem?;intro q;rw[List.getElem?_set];simp only[rL,List.getElem?_map,List.length_map,List.length_range];by_cases h:q<n
 ·by_cases e:j=q
  ·subst e;simp[h]
  ·have:(q<j)↔(q<j+1):=qO;simp[h,e,this]
 ·by_cases e:j=q
  ·subst e;simp[h]
  ·simp[h,e]
theorem Qx(k:BL)(n q:Nat)(h:q<n):(rL k n n)[q]? =some (.int .i64 (pto k n q:Nat)):=by
 simp[rL,h]
def zB(k:BL)(n j:Nat):List Value:=(List.range n).map fun q=>.bool (decide (rK k n q<j))
@[simp] theorem Ty(k:BL)(n j:Nat):(zB k n j).length=n:=by simp[zB]
end Da
theorem Do:(Tryz.prog.info? 3).map (fun i=>(i.zero,i.size,i.bytes))=some (some (.int .i64 0),1,8):=qK
theorem BW(N:Nat)(h:N<=2000)(W:World):(Instr.makeSlice 37 (.int .i64 (N:Int)) (.int .i64 (N:Int))).run Tryz.prog W=.ok (.slice (some ⟨W.heap.size,0,none⟩) N N) (W.alloc (.cells (Array.replicate N (.int .i64 0)) 3)):=by
 have hi:=Do;cases hh: Tryz.prog.info? 3 with
 |none=>rw[hh]at hi;cases hi
 |some i=>
  rw[hh]at hi;simp only[Option.map_some,Option.some.injEq,Prod.mk.injEq]at hi;have:=run_make (P:= Tryz.prog) W 37 3 i (.int .i64 0) Tryz.underlying37 hh hi.1 .i64 .i64 (N:Int) (N:Int) qO qO (by rw[hi.2.2];omega) qO;rw[this,hi.2.1];simp only[Int.toNat_natCast,Nat.mul_one];congr 3
  apply Array.ext
  ·simp[madeCells]
  ·intro k h1 h2;simp[madeCells,Value.cells];rw[Nat.mod_one];rfl
def SlG(g p n m:Nat)(base:Nat)(i:Nat)(v:Value)(W:World):Prop:=
 match i with
 |0=>v=.pointer (some ⟨g,0,none⟩)
 |1=>v=.pointer (some ⟨g,0,none⟩)
 |2=>v=.pointer (some ⟨g,0,none⟩)
 |3=>v=.int .i64 (n:Int)
 |4=>∃b,v=.slice (some ⟨b,0,none⟩) n n/\base<=b/\Arr W b 3 (List.replicate n (.int .i64 0))
 |5=>v=.pointer (some ⟨g,0,none⟩)
 |6=>v=.pointer (some ⟨g,0,none⟩)
 |7=>v=.pointer (some ⟨g,1,none⟩)
 |8=>v=.agg #[.pointer (some ⟨p,0,none⟩),.int .i64 (m:Int)]
 |9=>v=.func (.func 89) #[.agg #[.pointer (some ⟨p,0,none⟩),.int .i64 (m:Int)]] #[]
 |10=>∃b,v=.slice (some ⟨b,0,none⟩) n n/\base<=b/\Arr W b 3 (List.replicate n (.int .i64 0))
 |11=>v=.func (.func 89) #[.agg #[.pointer (some ⟨p,0,none⟩),.int .i64 (m:Int)]] #[]
 |_=>True
theorem SlG.later{g p n m base:Nat}(i:Nat)(u:Value)(v v':World)(h:SlG g p n m base i u v)(hb:Below v.heap.size v v'):SlG g p n m base i u v':=by
 unfold SlG at*;split at h
 ·exact h
 ·exact h
 ·exact h
 ·exact h
 ·obtain⟨b,e,hg,hh⟩:=h;exact⟨b,e,hg,hh.later hb hh.lt⟩
 ·exact h
 ·exact h
 ·exact h
 ·exact h
 ·exact h
 ·obtain⟨b,e,hg,hh⟩:=h;exact⟨b,e,hg,hh.later hb hh.lt⟩
 ·exact h
 ·trivial
def VH(k:BL)(n b:Nat)(w:World)(i:Value)(wr:World):Prop:=
 ∃j:Nat,j<=n/\i=.int .i64 (j:Int)/\Arr wr b 3 (Da.rL k n j)/\Below w.heap.size w wr
theorem NH(g p:Nat)(k:BL)(n:Nat)(hn:n<=1024)(w:World)(hO:OrdAt w g p k n)(hV:Cds w):
  Calls Tryz.prog 85 #[.pointer (some ⟨g,0,none⟩)] w fun e w'=>∃b,e=.returned (.slice (some ⟨b,0,none⟩) n n)/\Arr w' b 3 (Da.rL k n n)/\Below w.heap.size w w':=by
 have hmf:= @makes Tryz.prog;have hc:=hO.size;have HO:=Lh hO;have HV:=Lh hV;have CO:=Lh (fun x hx v hb=>xt g p k n qO x hx v (hO.later hb) (hV.later hb));have HP:Hid (∀x,Da.pl (Da.son k (Da.bw n)) n (4^Da.bw n) x=Da.pto k n x):=Lh (fun x=>rfl);have hst:=hO.steps;obtain⟨m,hm⟩:=qM (Da.bw n);have HCO:Hid (∀(x:Nat),x<n->∀v,Below w.heap.size w v->Calls Tryz.prog 133 #[.pointer (some ⟨g,0,none⟩),.func (.func 89) #[.agg #[.pointer (some ⟨p,0,none⟩),.int .i64 (m:Int)]] #[],.int .i64 (x:Int)] v fun e w'=>e=.returned (.int .i64 ((Da.pto k n x:Nat):Int))/\Below v.heap.size v w'):=Lh (fun x hx v hb=>by
  have:=CO.out x hx v hb;rw[HP.out,hm]at this;exact this)
 have HM:=Lh hm;have HSU:Hid (Tryz.prog.underlying 173=_):=Lh Tryz.underlying173;have hd1:decide ((n:Int)>1024)=false:=by simp;omega
 clear hO hV CO HP hst hm;go_enter Tryz.func85,Tryz.ntmps85
 go_wp2_with fail;refine Code.wp_mono (Q:=fun e b' v=>e=.normal/\∃(b:Nat)(f:Nat->Value),w.heap.size<=b/\Below w.heap.size w v/\Arr v b 3 (List.replicate n (.int .i64 0))/\b'={tmps:=#[.pointer (some ⟨g,0,none⟩),f 1,.slice none 0 0,.slice (some ⟨b,0,none⟩) n n,.func (.func 89) #[.agg #[.pointer (some ⟨p,0,none⟩),.int .i64 (m:Int)]] #[],f 5,f 6,f 7,f 8,f 9,f 10,f 11,f 12,f 13,f 14,f 15,f 16,f 17,f 18,f 19,f 20,f 21,f 22,f 23,f 24,f 25,f 26,f 27,f 28,f 29,f 30,f 31,f 32,f 33,f 34],defers:=[]}) ?rest ?reg
 case reg=>
  refine Rg.y8 qK (SlG g p n m w.heap.size) qK SlG.later ?gd ?step ?fin
  case gd=>
   intro i o k t ho hg;have hi:=(aE.1 ho).1
   match i,hi with
   |0,_=>obtain rfl:=Option.some.inj ho;cases hg
   |1,_=>obtain rfl:=Option.some.inj ho;cases hg
   |2,_=>obtain rfl:=Option.some.inj ho;cases hg
   |3,_=>obtain rfl:=Option.some.inj ho;cases hg
   |4,_=>obtain rfl:=Option.some.inj ho;cases hg
   |5,_=>obtain rfl:=Option.some.inj ho;cases hg
   |6,_=>obtain rfl:=Option.some.inj ho;cases hg
   |7,_=>obtain rfl:=Option.some.inj ho;cases hg
   |8,_=>obtain rfl:=Option.some.inj ho;cases hg
   |9,_=>obtain rfl:=Option.some.inj ho;cases hg
   |10,_=>obtain rfl:=Option.some.inj ho;cases hg
   |11,_=>obtain rfl:=Option.some.inj ho;cases hg
   |m+12,h=>exact absurd h qS
  case step=>
   intro i op b' v ho hb hrest hdep;have hi:=(aE.1 ho).1;have r0:b'.eval (.tmp 0)=.pointer (some ⟨g,0,none⟩):=hrest 0 (Rg.free_spec qK)
   match i,hi with
   |0,_=>
    obtain rfl:=Option.some.inj ho;exact Rg.aP rfl r0
   |1,_=>
    obtain rfl:=Option.some.inj ho;have d1:b'.eval (.tmp 11)=.pointer (some ⟨g,0,none⟩):=hdep ⟨0,.data⟩ qS rfl _ _ rfl rfl;have f1:b'.tmps[11]?.getD undef=_:=(show _=b'.eval (.tmp 11) by simp[Act.eval]).trans d1;refine Rg.aJ (.pointer (some ⟨g,0,none⟩)) ?_ rfl;simp only[execOp];go_simp
   |2,_=>
    obtain rfl:=Option.some.inj ho;have d1:b'.eval (.tmp 12)=.pointer (some ⟨g,0,none⟩):=hdep ⟨1,.data⟩ qS rfl _ _ rfl rfl;have f1:b'.tmps[12]?.getD undef=_:=(show _=b'.eval (.tmp 12) by simp[Act.eval]).trans d1;refine Rg.aJ (.pointer (some ⟨g,0,none⟩)) ?_ rfl;simp only[execOp];go_simp
   |3,_=>
    obtain rfl:=Option.some.inj ho;have d1:b'.eval (.tmp 13)=.pointer (some ⟨g,0,none⟩):=hdep ⟨2,.data⟩ qS rfl _ _ rfl rfl;have f1:b'.tmps[13]?.getD undef=_:=(show _=b'.eval (.tmp 13) by simp[Act.eval]).trans d1;have hc:=(HO.out.later hb).size;refine Rg.aJ (.int .i64 (n:Int)) ?_ rfl;simp only[execOp];go_simp
   |4,_=>
    obtain rfl:=Option.some.inj ho;have d1:b'.eval (.tmp 14)=.int .i64 (n:Int):=hdep ⟨3,.data⟩ qS rfl _ _ rfl rfl;have f1:b'.tmps[14]?.getD undef=_:=(show _=b'.eval (.tmp 14) by simp[Act.eval]).trans d1;have hmk:=BW n qO v;refine Rg.gt (v':=v.alloc (.cells (Array.replicate n (.int .i64 0)) 3)) (.slice (some ⟨v.heap.size,0,none⟩) n n) ?_ ⟨v.heap.size,rfl,hb.size,by have:=Arr.made v 3 (List.replicate n (.int .i64 0));simpa using this⟩ (qB.alloc qN _);simp only[execOp];go_simp
   |5,_=>
    obtain rfl:=Option.some.inj ho;exact Rg.aP rfl r0
   |6,_=>
    obtain rfl:=Option.some.inj ho;have d1:b'.eval (.tmp 16)=.pointer (some ⟨g,0,none⟩):=hdep ⟨5,.data⟩ qS rfl _ _ rfl rfl;have f1:b'.tmps[16]?.getD undef=_:=(show _=b'.eval (.tmp 16) by simp[Act.eval]).trans d1;refine Rg.aJ (.pointer (some ⟨g,0,none⟩)) ?_ rfl;simp only[execOp];go_simp
   |7,_=>
    obtain rfl:=Option.some.inj ho;have d1:b'.eval (.tmp 17)=.pointer (some ⟨g,0,none⟩):=hdep ⟨6,.data⟩ qS rfl _ _ rfl rfl;have f1:b'.tmps[17]?.getD undef=_:=(show _=b'.eval (.tmp 17) by simp[Act.eval]).trans d1;refine Rg.aJ (.pointer (some ⟨g,1,none⟩)) ?_ rfl;simp only[execOp];go_simp
   |8,_=>
    obtain rfl:=Option.some.inj ho;have d1:b'.eval (.tmp 18)=.pointer (some ⟨g,1,none⟩):=hdep ⟨7,.data⟩ qS rfl _ _ rfl rfl;have hrg:v.rangeAt g 1 [.pointer (some ⟨p,0,none⟩),.int .i64 (m:Int)]:=by rw[<-HM.out];exact(HO.out.later hb).steps
    exact Rg.aJ (.agg #[.pointer (some ⟨p,0,none⟩),.int .i64 (m:Int)]) (St.ib rfl d1 [.pointer (some ⟨p,0,none⟩),.int .i64 (m:Int)] _ hrg HSU.out rfl eP) rfl
   |9,_=>
    obtain rfl:=Option.some.inj ho;have d1:b'.eval (.tmp 19)=.agg #[.pointer (some ⟨p,0,none⟩),.int .i64 (m:Int)]:=hdep ⟨8,.data⟩ qS rfl _ _ rfl rfl;have f1:b'.tmps[19]?.getD undef=_:=(show _=b'.eval (.tmp 19) by simp[Act.eval]).trans d1;refine Rg.aJ (.func (.func 89) #[.agg #[.pointer (some ⟨p,0,none⟩),.int .i64 (m:Int)]] #[]) ?_ rfl;simp only[execOp];go_simp
   |10,_=>
    obtain rfl:=Option.some.inj ho;have d1:∃b,b'.eval (.tmp 15)=.slice (some ⟨b,0,none⟩) n n/\w.heap.size<=b/\Arr v b 3 (List.replicate n (.int .i64 0)):=hdep ⟨4,.data⟩ qS rfl _ _ rfl rfl;exact Rg.gM rfl d1
   |11,_=>
    obtain rfl:=Option.some.inj ho;have d1:b'.eval (.tmp 20)=.func (.func 89) #[.agg #[.pointer (some ⟨p,0,none⟩),.int .i64 (m:Int)]] #[]:=hdep ⟨9,.data⟩ qS rfl _ _ rfl rfl;exact Rg.gM rfl d1
   |q+12,h=>exact absurd h qS
  case fin=>
   intro b' v hb hs hd hrest hall;have r0:b'.tmps.getD 0 undef=.pointer (some ⟨g,0,none⟩):=hrest 0 (Rg.free_spec qK);have r2:b'.tmps.getD 2 undef=.slice none 0 0:=hrest 2 (Rg.free_spec qK);obtain⟨b,e3,hbb,hA⟩:=hall 10 _ 3 rfl rfl;have e4:b'.tmps.getD 4 undef=.func (.func 89) #[.agg #[.pointer (some ⟨p,0,none⟩),.int .i64 (m:Int)]] #[]:=hall 11 _ 4 rfl rfl;refine⟨rfl,b,fun i=>b'.tmps.getD i undef,hbb,hb,hA,?_⟩;have e:=Rg.Mi b'.tmps 35 hs;obtain⟨tm,df⟩:=b';obtain rfl:df=[]:=hd;dsimp only at r0 r2 e3 e4 e⊢;show({tmps:=tm,defers:=[]}:Act)=_;congr 1
   refine e.trans ?_;rw[<-r0,<-r2,<-e3,<-e4];rfl
 case rest=>
  rintro e a' W2 ⟨rfl,b,f,hbb,hb2,hA,rfl⟩;rename_i K0 hK0;show K0 _ _;refine hK0 _ _ ?_;clear hK0 K0;have HA:=Lh hA;have HB2:=Lh hb2;have HBB:=Lh hbb;clear hb2 hA hbb;go_wp2_with fail;go_loopw [23] (fun i wr=>VH k n b w i wr) (fun i _=>n-(intOf i).toNat)
  case atStart=>exact⟨0,Nat.zero_le _,rfl,by rw[Da.JE];exact HA.out,HB2.out⟩
  case round=>
   obtain⟨j,hj,rfl,hA,hB⟩:=hrel;by_cases hlt:j<n
   ·have CO:=Lh (HCO.out j hlt wr hB);have HS:=Lh (Da.JF k n j);obtain⟨T,hT⟩:∃T:Int,((Da.pto k n j:Nat):Int)=T:=⟨_,rfl⟩;rw[hT]at CO HS;have HA:=Lh hA;have HB:=Lh hB;clear hA hB hT;go_wp2_with fail;refine CO.out.mono ?_;rintro e W3 ⟨rfl,hb3⟩;have hA3:=HA.out.later hb3 HA.out.lt;have hB3:=Ks HB.out hb3;have hcell:W3.cell? ⟨b,j,none⟩=(Da.rL k n j)[j]? :=hA3.cell j;have hcl:∃u,W3.cell? ⟨b,j,none⟩=some u:=by rw[hcell];exact⟨_,List.getElem?_eq_getElem (by simpa using hlt)⟩
    obtain⟨u,hcl⟩:=hcl;have hfz:=hA3.frozen j;have HA3:=Lh hA3;have HB3:=Lh hB3;clear hA3 hB3 hb3 CO hcell;go_wp2_with fail;refine⟨⟨j+1,qO,by go_num,?_,HA3.out.below HB3.out HBB.out _ _⟩,by simp[intOf];omega⟩;rw[<-HS.out];exact HA3.out.set j _
   ·obtain rfl:j=n:=qO;have HA:=Lh hA;have HB:=Lh hB;clear hA hB;go_wp2_with fail;go_ret;exact⟨b,rfl,HA.out,HB.out⟩
