/- Loc -/
import Derived.StillTailTactics
import Derived.Laws.EntriesVeiled
import Derived.Test.YteldgablpehcpaaGreatDoorIns
set_option linter.unusedVariables false
set_option linter.unusedSimpArgs false
set_option maxRecDepth 100000
set_option maxHeartbeats 8000000
namespace Go.Proofs.YteldgablpehcpaaGreatDoor
open Go.RowKit
namespace Gf
theorem Gd(F:Nat->Nat->UInt8)(n m:Nat):sm (fun j=>sm (fun k=>F j k) m) n=sm (fun k=>sm (fun j=>F j k) n) m:=by
 induction n with
 |zero=>exact(bU (fun _ _=>rfl)).symm
 |succ n ih=>
  rw[sm,ih,<-mF];rfl
def dis(s c:Nat->UInt8)(L i:Nat):UInt8:=sm (fun j=>gm (c j) (s (i-j))) (L+1)
structure Run(s:Nat->UInt8)(n:Nat)(c:Nat->UInt8)(L:Nat):Prop where
 one:c 0=1
 run:∀i,L<=i->i<n->dis s c L i=0
theorem Run.less{s c:Nat->UInt8}{n m L:Nat}(h:Run s n c L)(hm:m<=n):Run s m c L:=⟨h.one,fun i h1 h2=>h.run i h1 qO⟩
theorem Run.more{s c:Nat->UInt8}{n L:Nat}(h:Run s n c L)(hd:L<=n->dis s c L n=0):Run s (n+1) c L:=⟨h.one,fun i h1 h2=>by
 by_cases e:i=n
 ·subst e;exact hd h1
 ·exact h.run i h1 qO⟩
theorem NR{s c d:Nat->UInt8}{L M n:Nat}(h:Run s n c L)(hd:dis s c L n≠0)(k:Run s (n+1) d M):n+1<=L+M:=by
 by_cases hc:n+1<=L+M
 ·exact hc
 ·exfalso
  refine hd ?_;have e1:sm (fun j=>gm (d j) (dis s c L (n-j))) (M+1)=dis s c L n:=by
   rw[iB,k.one,iX,Nat.sub_zero,bU (fun i hi=>by rw[h.run (n-(i+1)) qO qO,aO]),UInt8.xor_zero]
  have e2:sm (fun j=>gm (c j) (dis s d M (n-j))) (L+1)=0:=bU fun i hi=>by rw[k.run (n-i) qO qO,aO]
  rw[<-e1,<-e2];unfold dis;have e3:∀j,gm (d j) (sm (fun i=>gm (c i) (s (n-j-i))) (L+1))=sm (fun i=>gm (d j) (gm (c i) (s (n-j-i)))) (L+1):=fun j=>(jC _ _ _).symm
  have e4:∀i,gm (c i) (sm (fun j=>gm (d j) (s (n-i-j))) (M+1))=sm (fun j=>gm (c i) (gm (d j) (s (n-i-j)))) (M+1):=fun i=>(jC _ _ _).symm
  simp only[e3,e4];rw[Gd];refine aW fun i _=>aW fun j _=>?_
  rw[<-aS,<-aS,aX (d j),show n-j-i=n-i-j by omega]
def Least(s:Nat->UInt8)(n L:Nat):Prop:=∀d M,Run s n d M->L<=M
theorem Least.more{s:Nat->UInt8}{n L:Nat}(h:Least s n L):Least s (n+1) L:=fun d M k=>h d M (k.less qO)
theorem Least.step{s c:Nat->UInt8}{n L:Nat}(h:Least s n L)(hc:Run s n c L)(hd:dis s c L n≠0):Least s (n+1) (max L (n+1-L)):=fun d M k=>by
 have h1:=h d M (k.less qO);have h2:=NR hc hd k;omega
def vh(c b:Nat->UInt8)(a:UInt8)(x:Nat)(j:Nat):UInt8:=c j^^^gm a (ps x b j)
theorem NS{s c:Nat->UInt8}{L M i:Nat}(hc:∀j,L<j->c j=0)(hM:L<=M):dis s c M i=dis s c L i:=fW qO fun j hj=>by rw[hc j qO,aK]
theorem NT{s c b:Nat->UInt8}{a:UInt8}{x L M N i:Nat}(hc:∀j,L<j->c j=0)(hb:∀j,M<j->b j=0)(hL:L<=N)(hM:x+M<=N)(hx:x<=i):dis s (vh c b a x) N i=dis s c L i^^^gm a (dis s b M (i-x)):=by
 have e:dis s (vh c b a x) N i=dis s c N i^^^gm a (sm (fun j=>gm (ps x b j) (s (i-j))) (N+1)):=by
  unfold dis;rw[<-jC,<-mF];refine aW fun j _=>?_
  unfold vh;rw[iY,aS]
 rw[e,NS hc hL];congr 2
 rw[show N+1=x+(N+1-x) by omega,yg,bU (fun j hj=>by unfold ps;rw[if_neg qO,aK]),UInt8.zero_xor];unfold dis;rw[<-fW (n:=M+1) (m:=N+1-x) qO (fun j hj=>by rw[hb j qO,aK])];refine aW fun j hj=>?_
 unfold ps;rw[if_pos qO,Nat.add_sub_cancel_left,Nat.sub_sub]
theorem Run.step{s c b:Nat->UInt8}{n m L M:Nat}{a:UInt8}(hc:Run s n c L)(hcl:∀j,L<j->c j=0)(hb:Run s m b M)(hbl:∀j,M<j->b j=0)(hm:m<n)(hML:L+M=m+1)(ha:gm a (dis s b M m)=dis s c L n):
  Run s (n+1) (vh c b a (n-m)) (max L (n+1-L))/\∀j,max L (n+1-L)<j->vh c b a (n-m) j=0:=by
 refine⟨⟨?_,fun i h1 h2=>?_⟩,fun j hj=>?_⟩
 ·unfold vh ps;rw[if_neg qO,aO,UInt8.xor_zero,hc.one]
 ·rw[NT hcl hbl qO qO qO];by_cases e:i=n
  ·subst e;rw[show i-(i-m)=m by omega,ha,UInt8.xor_self]
  ·rw[hc.run i qO qO,hb.run (i-(n-m)) qO qO,aO];rfl
 ·unfold vh;rw[hcl j qO];unfold ps;rw[if_pos qO,hbl _ qO,aO];rfl
theorem Run.first{s:Nat->UInt8}{n:Nat}{c:Nat->UInt8}(h:c 0=1):Run s n c n:=⟨h,fun i h1 h2=>qO⟩
theorem Run.only{s c d:Nat->UInt8}{n L:Nat}(hl:Least s n L)(hc:Run s n c L)(hd:Run s n d L)(h2:2*L<=n):∀j,j<=L->c j=d j:=by
 by_cases hall:∀j,j<=L->c j=d j
 ·exact hall
 exfalso
 have hmin:∃k,k<=L/\c k≠d k/\∀j,j<k->c j=d j:=by
  have⟨j0,hj0⟩:=Classical.not_forall.1 hall;have⟨hj1,hj2⟩:=Classical.not_imp.1 hj0;clear hall hj0;induction j0 using Nat.strongRecOn with
  |ind j ih=>
   by_cases h:∀k,k<j->c k=d k
   ·exact⟨j,hj1,hj2,h⟩
   ·have⟨k,hk⟩:=Classical.not_forall.1 h;have⟨hk1,hk2⟩:=Classical.not_imp.1 hk;exact ih k hk1 qO hk2
 obtain⟨k,hkL,hk,hlow⟩:=hmin;have hk0:k≠0:=fun e=>hk (by rw[e,hc.one,hd.one])
 have hne:c k^^^d k≠0:=fun e=>hk (bI _ _ e)
 obtain⟨v,hv⟩:∃v,gm v (c k^^^d k)=1:=⟨gd 1 (c k^^^d k),sj _ _ hne⟩;have hb:Run s (n-k) (fun j=>gm v (c (k+j)^^^d (k+j))) (L-k):=by
  refine⟨hv,fun i h1 h3=>?_⟩;have e1:=hc.run (i+k) qO qO;have e2:=hd.run (i+k) qO qO;have e3:sm (fun j=>gm (c j^^^d j) (s (i+k-j))) (L+1)=0:=by
   have:sm (fun j=>gm (c j) (s (i+k-j))^^^gm (d j) (s (i+k-j))) (L+1)=0:=by
    rw[mF];show dis s c L (i+k)^^^dis s d L (i+k)=0;rw[e1,e2];rfl
   rw[<-this];exact aW fun j _=>iY _ _ _
  rw[show L+1=k+(L-k+1) by omega,yg,bU (fun j hj=>by rw[hlow j hj,UInt8.xor_self,aK]),UInt8.zero_xor]at e3;unfold dis;have e4:∀j,j<L-k+1->gm (gm v (c (k+j)^^^d (k+j))) (s (i-j))=gm v (gm (c (k+j)^^^d (k+j)) (s (i+k-(k+j)))):=fun j _=>by
   rw[aS,show i+k-(k+j)=i-j by omega]
  rw[aW e4,jC,e3,aO]
 by_cases hrun:Run s n (fun j=>gm v (c (k+j)^^^d (k+j))) (L-k)
 ·have:=hl _ _ hrun;omega
 ·have hfirst:∃m,n-k<=m/\m<n/\Run s m (fun j=>gm v (c (k+j)^^^d (k+j))) (L-k)/\dis s (fun j=>gm v (c (k+j)^^^d (k+j))) (L-k) m≠0:=by
   have hgo:∀t,n-k+t<=n->Run s (n-k+t) (fun j=>gm v (c (k+j)^^^d (k+j))) (L-k)∨∃m,n-k<=m/\m<n/\Run s m (fun j=>gm v (c (k+j)^^^d (k+j))) (L-k)/\dis s (fun j=>gm v (c (k+j)^^^d (k+j))) (L-k) m≠0:=by
    intro t;induction t with
    |zero=>exact fun _=>.inl hb
    |succ t ih=>
     intro ht;rcases ih qO with h|h
     ·by_cases e:dis s (fun j=>gm v (c (k+j)^^^d (k+j))) (L-k) (n-k+t)=0
      ·exact .inl (h.more fun _=>e)
      ·exact .inr ⟨n-k+t,qO,qO,h,e⟩
     ·exact .inr h
   rcases hgo k qO with h|h
   ·rw[show n-k+k=n by omega]at h;exact absurd h hrun
   ·exact h
  obtain⟨m,hm1,hm2,hm3,hm4⟩:=hfirst;have:=NR hm3 hm4 (hc.less qO);omega
theorem UB(x:UInt8)(G:BL)(L:Nat)(h:G.length=L+1):hv x G=sm (fun j=>gm (co G j) (px x (L-j))) (L+1):=by
 induction G generalizing L with
 |nil=>cases h
 |cons c G ih=>
  have hG:G.length=L:=by simpa using h
  rw[eV,iB,hG];have e1:∀i,co (c::G) (i+1)=co G i:=fun i=>by simp[co]
  congr 1
  cases L with
  |zero=>
   rw[List.eq_nil_of_length_eq_zero hG];rfl
  |succ L=>
   rw[ih L hG];exact aW fun j hj=>by rw[e1,show L+1-(j+1)=L-j by omega]
theorem EK(l:List (UInt8×UInt8))(G:BL)(L i:Nat)(h:G.length=L+1)(hi:L<=i):dis (ls l) (co G) L i=ls (l.map fun e=>(gm e.1 (hv e.2 G),e.2)) (i-L):=by
 induction l with
 |nil=>
  exact bU fun j _=>by rw[show ls [] (i-j)=0 from rfl,aO]
 |cons e l ih=>
  rw[List.map_cons,d6,<-ih];unfold dis;have e1:∀j,j<L+1->gm (co G j) (ls (e::l) (i-j))=gm (gm e.1 (px e.2 (i-L))) (gm (co G j) (px e.2 (L-j)))^^^gm (co G j) (ls l (i-j)):=fun j hj=>by
   rw[d6,fj];congr 1
   rw[show i-j=(i-L)+(L-j) by omega,DD,<-aS,<-aS,aX (co G j) e.1,aS e.1,aS,aX (co G j) (px e.2 (i-L)),<-aS e.1,aS,aS,aS]
  rw[aW e1,mF,jC,<-UB e.2 G L h];congr 1
  show gm (gm e.1 (px e.2 (i-L))) (hv e.2 G)=gm (gm e.1 (hv e.2 G)) (px e.2 (i-L));rw[aS,aS,aX (px e.2 (i-L))]
theorem RN(r:UInt8)(G:BL):∃Q:BL,Q.length=G.length-1/\(Q≠[]->co Q 0=co G 0)/\∀x,hv x G=gm (x^^^r) (hv x Q)^^^hv r G:=by
 obtain⟨T,rfl⟩:∃T:BL,G=T.reverse:=⟨G.reverse,qS⟩;induction T with
 |nil=>exact⟨[],rfl,fun h=>absurd rfl h,fun x=>by
   show(0:UInt8)=gm (x^^^r) 0^^^0;rw[aO];rfl⟩
 |cons c T ih=>
  obtain⟨Q,hl,h0,hx⟩:=ih;rw[List.reverse_cons];generalize T.reverse=G at*;cases G with
  |nil=>exact⟨[],qS,fun h=>absurd rfl h,fun x=>by
    rw[show hv x []=0 from rfl,aO,UInt8.zero_xor];show hv x ([]++[c])=hv r ([]++[c]);rw[iD,iD,show hv x []=0 from rfl,show hv r []=0 from rfl,aK,aK]⟩
  |cons g G=>
   refine⟨Q++[hv r (g::G)],by simp at hl⊢;omega,fun _=>?_,fun x=>?_⟩
   ·cases Q with
    |nil=>
     have:G=[]:=List.eq_nil_of_length_eq_zero (by simpa using hl.symm);subst this;show hv r [g]=g;show hv r ([]++[g])=g;rw[iD,show hv r []=0 from rfl,aK,UInt8.zero_xor]
    |cons q Q=>exact h0 qS
   ·rw[iD,iD,iD,hx x];generalize hv x Q=u;generalize hv r (g::G)=v;rw[fj,iY,aS,aX u x,iY x r v,aX x v,aX r v];generalize gm (x^^^r) (gm x u)=A;generalize gm v x=B;generalize gm v r=C;rw[UInt8.xor_assoc A B c,UInt8.xor_assoc A (B^^^C) (C^^^c),UInt8.xor_assoc B C (C^^^c),<-UInt8.xor_assoc C C c,UInt8.xor_self,UInt8.zero_xor]
theorem yE(xs:BL):∀(G:BL),co G 0≠0->xs.Nodup->(∀x∈xs,hv x G=0)->xs.length+1<=G.length:=by
 induction xs with
 |nil=>
  intro G h0 _ _;cases G with
  |nil=>exact absurd rfl h0
  |cons g G=>simp
 |cons r xs ih=>
  intro G h0 hn hx;rw[List.nodup_cons]at hn;obtain⟨Q,hl,hq,he⟩:=RN r G;have hr:=hx r qS;have hG:2<=G.length:=by
   match G,h0,hr with
   |[g],h0,hr=>
    exfalso
    refine h0 ?_;have:hv r ([]++[g])=0:=hr;rw[iD,show hv r []=0 from rfl,aK,UInt8.zero_xor]at this;exact this
   |g::g2::G,_,_=>simp
  have hQ:Q≠[]:=fun e=>by rw[e]at hl;simp at hl;omega
  have:=ih Q (by rw[hq hQ];exact h0) hn.2 fun x hm=>by
   have h1:=he x;rw[hx x (by simp[hm]),hr,UInt8.xor_zero]at h1;have hne:x^^^r≠0:=fun e=>hn.1 (by rw[<-bI x r e];exact hm)
   exact(bS _ _ hne).1 h1.symm
  simp;omega
theorem NU(l:List (UInt8×UInt8))(hn:(l.map (·.2)).Nodup)(h0:∀e∈l,e.1≠0)(n:Nat)(h2:2*l.length<=n):Least (ls l) n l.length:=by
 intro d M hd;by_cases hM:l.length<=M
 ·exact hM
 exfalso
 have hG:(tab d (M+1)).length=M+1:=qS;have hz:∀e∈l.map (fun e=>(gm e.1 (hv e.2 (tab d (M+1))),e.2)),e.1=0:=by
  refine Lc _ (by simpa[Function.comp_def]using hn) fun j hj=>?_
  simp at hj;have h1:=EK l (tab d (M+1)) M (M+j) hG qO;rw[show M+j-M=j by omega]at h1;rw[<-h1,<-hd.run (M+j) qO qO];exact aW fun i hi=>by rw[aT _ _ _ hi]
 have:=yE (l.map (·.2)) (tab d (M+1)) (by rw[aT _ _ _ qO,hd.one];decide) hn fun x hx=>by
  obtain⟨e,he,rfl⟩:=List.mem_map.1 hx;have h1:=hz _ (List.mem_map.2 ⟨e,he,rfl⟩);exact(bS _ _ (h0 e he)).1 h1
 simp at this;omega
theorem VO(l:List (UInt8×UInt8))(G:BL)(L n:Nat)(h:G.length=L+1)(h1:co G 0=1)(hz:∀e∈l,hv e.2 G=0):Run (ls l) n (co G) L:=
 ⟨h1,fun i hi _=>by
  rw[EK l G L i h hi];refine Fo (fun e he=>?_) _;obtain⟨d,hd,rfl⟩:=List.mem_map.1 he;show gm d.1 (hv d.2 G)=0;rw[hz d hd,aO]⟩
def ny(G:BL)(y:UInt8):BL:=tab (fun m=>co G m^^^gm y (if m=0 then 0 else co G (m-1))) (G.length+1)
def aV(ys:BL):BL:=ys.foldl ny [1]
@[simp] theorem yF(G:BL)(y:UInt8):(ny G y).length=G.length+1:=by simp[ny]
theorem YD(G:BL)(x y:UInt8):hv x (ny G y)=gm (hv x G) (x^^^y):=by
 have e:ny G y=bV (G++[0]) (0::G.map (gm y)):=by
  refine aN (by simp[bV]) fun m hm=>?_
  simp at hm;have e1:co (ny G y) m=co G m^^^gm y (if m=0 then 0 else co G (m-1)):=aT _ _ _ hm;have e2:co (bV (G++[0]) (0::G.map (gm y))) m=co (G++[0]) m^^^co (0::G.map (gm y)) m:=by
   simp only[co,bV,List.getD_eq_getElem?_getD,List.getElem?_zipWith];rw[List.getElem?_eq_getElem (l:=G++[0]) (by simp;omega),List.getElem?_eq_getElem (l:=0::G.map (gm y)) (by simp;omega)];rfl
  rw[e1,e2];congr 1
  ·simp only[co,List.getD_eq_getElem?_getD];by_cases h:m<G.length
   ·rw[List.getElem?_append_left h]
   ·rw[List.getElem?_append_right qO,List.getElem?_eq_none qO,show m-G.length=0 by omega];rfl
  ·cases m with
   |zero=>rw[if_pos rfl,aO];rfl
   |succ m=>
    rw[if_neg qO,Nat.add_sub_cancel];simp only[co,List.getD_eq_getElem?_getD,List.getElem?_cons_succ,List.getElem?_map];rw[List.getElem?_eq_getElem qO];rfl
 rw[e,uV _ _ _ qS,iD,eV,aK,UInt8.zero_xor,uU,UInt8.xor_zero,fj,aX y]
theorem az(ys:BL):(aV ys).length=ys.length+1:=by
 have h:∀(ys:BL)(G:BL),(ys.foldl ny G).length=G.length+ys.length:=by
  intro ys;induction ys with
  |nil=>intro G;rfl
  |cons y ys ih=>intro G;rw[List.foldl_cons,ih];simp;omega
 rw[aV,h];simp;omega
theorem sN(ys:BL)(y:UInt8):aV (ys++[y])=ny (aV ys) y:=by
 unfold aV;rw[List.foldl_append];rfl
theorem lY(ys:BL):co (aV ys) 0=1:=by
 have h:∀(ys:BL)(G:BL),co (ys.foldl ny G) 0=co G 0:=by
  intro ys;induction ys with
  |nil=>intro G;rfl
  |cons y ys ih=>
   intro G;rw[List.foldl_cons,ih,show co (ny G y) 0=_ from aT _ _ _ qO,if_pos rfl,aO,UInt8.xor_zero]
 rw[aV,h];rfl
theorem pI(ys:BL)(x:UInt8):hv x (aV ys)=0↔x∈ys:=by
 have h:∀(ys:BL)(G:BL),hv x (ys.foldl ny G)=0↔hv x G=0∨x∈ys:=by
  intro ys;induction ys with
  |nil=>intro G;simp
  |cons y ys ih=>
   intro G;rw[List.foldl_cons,ih,YD,List.mem_cons];by_cases hG:hv x G=0
   ·simp[hG,aK]
   ·rw[bS _ _ hG];constructor
    ·rintro(h|h)
     ·exact .inr (.inl (bI _ _ h))
     ·exact .inr (.inr h)
    ·rintro(h|h|h)
     ·exact absurd h hG
     ·exact .inl (by rw[h,UInt8.xor_self])
     ·exact .inr h
 rw[aV,h];constructor
 ·rintro(h|h)
  ·rw[show hv x [1]=gm 0 x^^^1 from rfl,aK]at h;exact absurd h qD
  ·exact h
 ·exact .inr
theorem zJ(l:List (UInt8×UInt8))(n:Nat):Run (ls l) n (co (aV (l.map (·.2)))) l.length:=
 VO l _ _ n (by rw[az];simp) (lY _) fun e he=>(pI _ _).2 (List.mem_map.2 ⟨e,he,rfl⟩)
def swp(m:Nat->Nat->UInt8)(a k:Nat)(i j:Nat):UInt8:=if i=a then m k j else if i=k then m a j else m i j
end Gf
theorem gW{α:Type}[DecidableEq α](a b:List α)(h:a.Nodup)(hs:∀x∈a,x∈b):a.length<=b.length:=by
 induction a generalizing b with
 |nil=>simp
 |cons x a ih=>
  have hx:=hs x qS;have hn:=List.nodup_cons.1 h;have:=ih (b.erase x) hn.2 fun y hy=>by
   have hne:y≠x:=fun e=>hn.1 (e▸hy)
   exact(List.mem_erase_of_ne hne).2 (hs y (by simp[hy]))
  rw[List.length_erase_of_mem hx]at this;have:=List.length_pos_of_mem hx;simp;omega
theorem NV(F:Nat->UInt8)(n:Nat):Gf.sm F (n+1)=Gf.sm (fun i=>F (n-i)) (n+1):=by
 induction n generalizing F with
 |zero=>rfl
 |succ n ih=>
  rw[Gf.iB,ih (fun i=>F (i+1))];show _=Gf.sm _ (n+1)^^^F (n+1-(n+1));rw[Nat.sub_self,UInt8.xor_comm];congr 1
  exact Gf.aW fun i hi=>by rw[show n-i+1=n+1-i by omega]
theorem mf(p q:BL)(k:Nat):co (bB p q) k=co (bB q p) k:=by
 rw[bY,bY,NV];exact Gf.aW fun i hi=>by rw[show k-(k-i)=i by omega,Gf.aX]
theorem YE(p:BL)(y:UInt8)(m:Nat):co (bB p [1,y]) m=co p m^^^Gf.gm y (if m=0 then 0 else co p (m-1)):=by
 rw[bY];cases m with
 |zero=>
  rw[if_pos rfl,Gf.aO,UInt8.xor_zero];show(0:UInt8)^^^Gf.gm (co p 0) (co [1,y] 0)=_;rw[show co [1,y] 0=1 from rfl,Gf.cd,UInt8.zero_xor]
 |succ m=>
  rw[if_neg qO,Nat.add_sub_cancel];show(Gf.sm _ m^^^Gf.gm (co p m) (co [1,y] (m+1-m)))^^^Gf.gm (co p (m+1)) (co [1,y] (m+1-(m+1)))=_;rw[show m+1-m=1 by omega,Nat.sub_self,show co [1,y] 1=y from rfl,show co [1,y] 0=1 from rfl,Gf.cd];rw[show Gf.sm (fun i=>Gf.gm (co p i) (co [1,y] (m+1-i))) m=0 from Gf.bU fun i hi=>by
   rw[show co [1,y] (m+1-i)=0 from aZ (by show 2<=_;omega),Gf.aO]]
  rw[UInt8.zero_xor,UInt8.xor_comm,Gf.aX]
namespace Gf
theorem Ge(G:BL)(y:UInt8)(m:Nat):co (ny G y) m=co G m^^^gm y (if m=0 then 0 else co G (m-1)):=kM _ _ _ fun j hj=>by
 rw[aZ qO,if_neg qO,aZ qO,aO];rfl
theorem NX(z:BL)(k:Nat)(h:k<=z.length)(m:Nat):co (cD (fun r=>[1,r]) z k) m=co (aV (z.take k)) m:=by
 induction k generalizing m with
 |zero=>simp[cD,aV]
 |succ k ih=>
  have e:z.take (k+1)=z.take k++[co z k]:=by
   rw[List.take_add_one,List.getElem?_eq_getElem qO];simp[co,List.getD_eq_getElem?_getD,List.getElem?_eq_getElem (show k<z.length by omega)]
  rw[cD,e,sN,YE,Ge,ih qO,ih qO]
theorem Gg(ys:BL)(h:∀y∈ys,y≠0):co (aV ys) ys.length≠0:=by
 have hg:∀(ys:BL)(G:BL),(∀y∈ys,y≠0)->co G (G.length-1)≠0->0<G.length->co (ys.foldl ny G) (G.length-1+ys.length)≠0:=by
  intro ys;induction ys with
  |nil=>intro G _ h1 _;exact h1
  |cons y ys ih=>
   intro G h1 h2 h3;rw[List.foldl_cons];have:=ih (ny G y) (fun a ha=>h1 a (by simp[ha])) (by
    rw[yF,Nat.add_sub_cancel,Ge,aZ qN,if_neg qO,UInt8.zero_xor];intro h;exact h2 ((bS _ _ (h1 y qS)).1 h)) qS
   rw[yF]at this;rw[show G.length-1+(y::ys).length=G.length+1-1+ys.length by simp;omega];exact this
 have:=hg ys [1] h qD qD;simpa[aV]using this
theorem EL(ys:BL)(h:∀y∈ys,y≠0):tr (aV ys)=aV ys:=by
 have hl:=az ys;have e:tl (aV ys) (aV ys).length=(aV ys).length:=oe _ _ _ qN (fun i h1 h2=>qO) fun _=>by
  rw[hl,Nat.add_sub_cancel];exact Gg ys h
 unfold tr;rw[e,List.take_length]
theorem Run.congr{s r:Nat->UInt8}{n L:Nat}{c:Nat->UInt8}(h:Run s n c L)(he:∀i,i<n->s i=r i):Run r n c L:=⟨h.one,fun i h1 h2=>by
 rw[<-h.run i h1 h2];exact aW fun j _=>by rw[he (i-j) qO]⟩
theorem Least.congr{s r:Nat->UInt8}{n L:Nat}(h:Least s n L)(he:∀i,i<n->s i=r i):Least r n L:=fun d M k=>h d M (k.congr fun i hi=>(he i hi).symm)
theorem Run.cong{s:Nat->UInt8}{n L:Nat}{c d:Nat->UInt8}(h:Run s n c L)(he:∀j,c j=d j):Run s n d L:=by
 have:c=d:=funext he;subst this;exact h
theorem NY(G:BL)(x y:UInt8)(h:gm x y=1)(h0:1<=G.length):hv x G=gm (px x (G.length-1)) (evL G y):=by
 obtain⟨L,hL⟩:∃L,G.length=L+1:=⟨G.length-1,qO⟩;rw[UB x G L hL,hL,Nat.add_sub_cancel];show _=gm _ (ev G.length (co G) y);unfold ev;rw[hL,<-jC];refine aW fun j hj=>?_
 have h1:∀k,gm (px x k) (px y k)=1:=fun k=>by
  induction k with
  |zero=>rw[px,px,iX]
  |succ k ih=>
   rw[px,px,aX (px x k) x,aS,<-aS (px x k),ih,iX,h]
 have h2:px x L=gm (px x (L-j)) (px x j):=by rw[<-DD,show L-j+j=L by omega]
 rw[h2,aX (co G j),aS,<-aS (px x j),aX (px x j) (co G j),aS (co G j),h1,cd]
theorem RP(l:List (UInt8×UInt8))(P:UInt8×UInt8->Bool)(f:UInt8×UInt8->UInt8×UInt8)(h:∀q∈l,P q=false->(f q).1=0)(j:Nat):ls ((l.filter P).map f) j=ls (l.map f) j:=by
 induction l with
 |nil=>rfl
 |cons q l ih=>
  have ih:=ih fun q hq=>h q (by simp[hq])
  rw[List.filter_cons,List.map_cons,d6];by_cases hp:P q=true
  ·rw[if_pos hp,List.map_cons,d6,ih]
  ·rw[if_neg hp,ih,h q qS (by simpa using hp),aK,UInt8.zero_xor]
def oth(E d:BL):List (UInt8×UInt8):=(pr d).filter fun q=>q.1 !=0&& !(E.contains q.2)
theorem yG(E d:BL)(h:d.length<=255):((oth E d).map (·.2)).Nodup:=(List.filter_sublist.map _).nodup (AW d h)
theorem RQ(E d s G:BL)(hG:∀i,co G i=co (aV E) i)(hs:∀j,j<32->co s j=hv (al j) d)(i:Nat)(hi:E.length+i<32):
  co (bB s G) (E.length+i)=ls ((oth E d).map fun q=>(gm q.1 (hv q.2 (aV E)),q.2)) i:=by
 have e1:co (bB s G) (E.length+i)=co (bB s (aV E)) (E.length+i):=eU (fun _=>rfl) hG _;unfold oth;rw[e1,mf,bY,RP]
 ·have h2:=EK (pr d) (aV E) E.length (E.length+i) (az E) qO;rw[show E.length+i-E.length=i by omega]at h2;rw[<-h2];unfold dis;rw[fW (n:=E.length+1) (m:=E.length+i+1) qO (fun j hj=>by rw[aZ (by rw[az];exact hj),aK])];exact aW fun j hj=>by rw[hs _ qO,T9]
 ·intro q hq hP;simp at hP;by_cases h0:q.1=0
  ·show gm q.1 _=0;rw[h0,aK]
  ·show gm q.1 (hv q.2 (aV E))=0;rw[(pI E q.2).2 (hP h0),aO]
theorem RR(E d s G R C:BL)(L m:Nat)(hd:d.length<=255)(hG:∀i,co G i=co (aV E) i)(hs:∀j,j<32->co s j=hv (al j) d)(hm:E.length+m=32)
  (hR:∀i,i<m->co R i=co (bB s G) (E.length+i)) (h2:2*(oth E d).length<=m) (hr:Run (co R) m (co C) L) (hl:Least (co R) m L) (hC:C.length<=L+1):
  L=(oth E d).length/\∀j,co C j=co (aV ((oth E d).map (·.2))) j:=by
 obtain⟨l,hle⟩:∃l,l=(oth E d).map (fun q=>(gm q.1 (hv q.2 (aV E)),q.2)):=⟨_,rfl⟩;have hlen:l.length=(oth E d).length:=by rw[hle];simp
 have hsnd:l.map (·.2)=(oth E d).map (·.2):=by rw[hle];simp
 have hrow:∀i,i<m->co R i=ls l i:=fun i hi=>by rw[hR i hi,RQ E d s G hG hs i qO,hle]
 have hr2:=hr.congr hrow;have hl2:=hl.congr hrow;have hle2:=NU l (by rw[hsnd];exact yG E d hd) (fun e he=>by
  rw[hle]at he;obtain⟨q,hq,rfl⟩:=List.mem_map.1 he;have hq:=(List.mem_filter.1 hq).2;simp at hq;show gm q.1 (hv q.2 (aV E))≠0;intro h;exact hq.2 ((pI E q.2).1 ((bS _ _ hq.1).1 h))) m qO
 have hlr:=zJ l m;have h3:=hl2 _ _ hlr;have h4:=hle2 _ _ hr2;have hL:L=l.length:=qO;refine⟨qO,fun j=>?_⟩;rw[<-hsnd];by_cases hj:j<=L
 ·exact Run.only (hL▸hle2) hr2 (hL▸hlr) qO j hj
 ·rw[aZ qO,aZ (by rw[az];simp;omega)]
theorem VP(E d:BL):∀y∈(oth E d).map (·.2),y≠0:=fun y hy=>by
 obtain⟨q,hq,rfl⟩:=List.mem_map.1 hy;obtain⟨k,_,hk⟩:=Ld (List.mem_filter.1 hq).1;rw[hk];exact lM k
theorem qH(d:BL)(q:UInt8×UInt8):q∈pr d↔∃p,p<d.length/\q=(co d p,al (d.length-1-p)):=by
 induction d with
 |nil=>simp[pr]
 |cons c d ih=>
  rw[pr,List.mem_cons,ih];constructor
  ·rintro(rfl|⟨p,hp,rfl⟩)
   ·exact⟨0,qS,by simp[co]⟩
   ·exact⟨p+1,by simp;omega,by simp[co];congr 1;omega⟩
  ·rintro⟨p,hp,rfl⟩;cases p with
   |zero=>exact .inl (by simp[co])
   |succ p=>exact .inr ⟨p,by simpa using hp,by simp[co];congr 1;omega⟩
theorem zK(E d:BL)(hd:d.length<=255)(p:Nat)(hp:p<d.length):al (d.length-1-p)∈(oth E d).map (·.2)↔co d p≠0/\al (d.length-1-p) ∉ E:=by
 constructor
 ·intro h;obtain⟨q,hq,he⟩:=List.mem_map.1 h;obtain⟨h1,h2⟩:=List.mem_filter.1 hq;obtain⟨p',hp',rfl⟩:=(qH d q).1 h1;have:=(uS _ _).1 he;obtain rfl:p'=p:=qO;simpa using h2
 ·rintro⟨h1,h2⟩;exact List.mem_map.2 ⟨(co d p,al (d.length-1-p)),List.mem_filter.2 ⟨(qH d _).2 ⟨p,hp,rfl⟩,by simpa using ⟨h1,h2⟩⟩,rfl⟩
theorem NZ(E d:BL)(hd:d.length<=255)(H:List Nat)(h:∀p,p<d.length->co d p≠0->al (d.length-1-p) ∉ E->p∈H):(oth E d).length<=H.length:=by
 have:=gW ((oth E d).map (·.2)) (H.map fun p=>al (d.length-1-p)) (yG E d hd) fun x hx=>by
  obtain⟨q,hq,rfl⟩:=List.mem_map.1 hx;obtain⟨h1,h2⟩:=List.mem_filter.1 hq;obtain⟨p,hp,rfl⟩:=(qH d q).1 h1;simp at h2;exact List.mem_map.2 ⟨p,h p hp h2.1 h2.2,rfl⟩
 simpa using this
theorem N0(E d:BL)(hd:d.length<=255)(H:List Nat)(hn:H.Nodup)(h:∀p∈H,p<d.length/\co d p≠0/\al (d.length-1-p) ∉ E):H.length<=(oth E d).length:=by
 have hmap:(H.map fun p=>al (d.length-1-p)).Nodup:=by
  induction H with
  |nil=>exact List.nodup_nil
  |cons p H ih=>
   have hn2:=List.nodup_cons.1 hn;rw[List.map_cons,List.nodup_cons];refine⟨fun hm=>?_,ih hn2.2 (fun q hq=>h q (by simp[hq]))⟩;obtain⟨q,hq,he⟩:=List.mem_map.1 hm;have h1:=(h p qS).1;have h2:=(h q (by simp[hq])).1;have he:=(uS _ _).1 he;obtain rfl:p=q:=qO;exact hn2.1 hq
 have:=gW (H.map fun p=>al (d.length-1-p)) ((oth E d).map (·.2)) hmap fun x hx=>by
  obtain⟨p,hp,rfl⟩:=List.mem_map.1 hx;obtain⟨h1,h2,h3⟩:=h p hp;exact(zK E d hd p h1).2 ⟨h2,h3⟩
 simpa using this
theorem J0(x:UInt8)(l:List (UInt8×UInt8))(h:∀e∈l,e.2^^^x≠0):(l.map fun e=>(gd e.1 (e.2^^^x),e.2)).map (fun d=>(gm d.1 (d.2^^^x),d.2))=l:=by
 rw[List.map_map];conv=>rhs;rw[<-List.map_id l]
 refine List.map_congr_left fun e he=>?_
 show(gm (gd e.1 (e.2^^^x)) (e.2^^^x),e.2)=e;rw[sj _ _ (h e he)]
theorem VQ(xs:BL)(hn:xs.Nodup)(s:Nat->UInt8):∃l:List (UInt8×UInt8),l.map (·.2)=xs/\∀j,j<xs.length->ls l j=s j:=by
 induction xs generalizing s with
 |nil=>exact⟨[],rfl,fun j hj=>absurd hj qS⟩
 |cons x xs ih=>
  rw[List.nodup_cons]at hn;obtain⟨l,hl,hs⟩:=ih hn.2 (fun j=>s (j+1)^^^gm x (s j));have hne:∀e∈l,e.2^^^x≠0:=fun e he h=>hn.1 (by rw[<-bI _ _ h,<-hl];exact List.mem_map.2 ⟨e,he,rfl⟩)
  have ht:=J0 x l hne;obtain⟨l2,hl2⟩:∃l2:List (UInt8×UInt8),l2=l.map fun e=>(gd e.1 (e.2^^^x),e.2):=⟨_,rfl⟩
  rw[<-hl2]at ht;have h2:∀j,ls l j=ls l2 (j+1)^^^gm x (ls l2 j):=fun j=>by
   rw[<-Fp,ht]
  have hsnd:l2.map (·.2)=xs:=by rw[hl2,List.map_map,<-hl];rfl
  refine⟨(s 0^^^ls l2 0,x)::l2,by rw[List.map_cons,hsnd],fun j hj=>?_⟩;rw[d6];have hc:∀k,k<=xs.length->gm (s 0^^^ls l2 0) (px x k)=s k^^^ls l2 k:=fun k=>by
   induction k with
   |zero=>intro _;rw[px,cd]
   |succ k ihk=>
    intro hk;have e1:=hs k qO;rw[h2]at e1;have e2:=ihk qO;rw[px,<-aS,e2,aX _ x,fj];have e3:ls l2 (k+1)=s (k+1)^^^gm x (s k)^^^gm x (ls l2 k):=by
     rw[<-e1,mD]
    rw[e3,<-UInt8.xor_assoc,<-UInt8.xor_assoc,UInt8.xor_self,UInt8.zero_xor]
  rw[hc j (by simp at hj;omega),mD]
theorem Run.same{s r c:Nat->UInt8}{n L:Nat}(h:Run s n c L)(k:Run r n c L)(he:∀j,j<L->s j=r j):∀j,j<n->s j=r j:=by
 intro j;induction j using Nat.strongRecOn with
 |ind j ih=>
  intro hj;by_cases h1:j<L
  ·exact he j h1
  ·have e1:=h.run j qO hj;have e2:=k.run j qO hj;unfold dis at e1 e2;rw[iB,h.one,iX,Nat.sub_zero]at e1 e2;have e3:sm (fun i=>gm (c (i+1)) (s (j-(i+1)))) L=sm (fun i=>gm (c (i+1)) (r (j-(i+1)))) L:=aW fun i hi=>by rw[ih (j-(i+1)) qO qO]
   rw[bI _ _ e1,bI _ _ e2,e3]
theorem RU(xs:BL)(hn:xs.Nodup)(s:Nat->UInt8)(n:Nat)(h:Run s n (co (aV xs)) xs.length):∃l:List (UInt8×UInt8),l.map (·.2)=xs/\∀j,j<n->ls l j=s j:=by
 obtain⟨l,hl,hs⟩:=VQ xs hn s;have h2:=zJ l n;have hlen:l.length=xs.length:=by rw[<-hl];simp
 rw[hl,hlen]at h2;exact⟨l,hl,h2.same h hs⟩
theorem EM(xs:BL)(hn:xs.Nodup)(G:BL)(hl:G.length<=xs.length)(hr:∀x∈xs,hv x G=0):∀c∈G,c=0:=by
 induction G with
 |nil=>intro c hc;cases hc
 |cons g G ih=>
  by_cases h0:g=0
  ·subst h0;have:=ih (by simp at hl;omega) fun x hx=>by
    have:=hr x hx;rwa[eV,aK,UInt8.zero_xor]at this
   intro c hc;rcases List.mem_cons.1 hc with rfl|hc
   ·rfl
   ·exact this c hc
  ·have:=yE xs (g::G) h0 hn hr;omega
theorem N1(G:BL)(xs:BL)(hn:xs.Nodup)(h1:co G 0=1)(hl:∀j,xs.length<j->co G j=0)(hr:∀x∈xs,∃y,gm x y=1/\evL G y=0):∀j,co G j=co (aV xs) j:=by
 obtain⟨T,hT⟩:∃T,T=tab (co G) (xs.length+1):=⟨_,rfl⟩;have hTl:T.length=xs.length+1:=by rw[hT];simp
 have hco:∀j,co T j=co G j:=fun j=>by rw[hT,kM _ _ _ fun j hj=>hl j qO]
 have hlen:=az xs;have hd:∀c∈bV T (aV xs),c=0:=by
  have hD:(bV T (aV xs)).length=xs.length+1:=by simp[bV,hTl,hlen]
  have h0:co (bV T (aV xs)) 0=0:=by
   have:(bV T (aV xs))=List.zipWith (·^^^·) T (aV xs):=rfl;rw[this];simp only[co,List.getD_eq_getElem?_getD,List.getElem?_zipWith];rw[List.getElem?_eq_getElem (by omega:0<T.length),List.getElem?_eq_getElem (by omega:0<(aV xs).length)];have e1:T[0]' qO=1:=by
    have:=hco 0;rw[h1]at this;simpa[co,List.getD_eq_getElem?_getD,List.getElem?_eq_getElem (by omega:0<T.length)]using this
   have e2:(aV xs)[0]' qO=1:=by
    have:=lY xs;simpa[co,List.getD_eq_getElem?_getD,List.getElem?_eq_getElem (by omega:0<(aV xs).length)]using this
   rw[e1,e2];rfl
  have hroot:∀x∈xs,hv x (bV T (aV xs))=0:=fun x hx=>by
   obtain⟨y,hy,he⟩:=hr x hx;rw[uV _ _ _ (by rw[hTl,hlen]),(pI xs x).2 hx,UInt8.xor_zero,NY T x y hy qO,iZ hco,he,aO]
  match hw:bV T (aV xs)with
  |[]=>intro c hc;cases hc
  |d::D=>
   rw[hw]at hD h0 hroot;have hd0:d=0:=h0;subst hd0;have:=EM xs hn D (by simp at hD;omega) fun x hx=>by
    have:=hroot x hx;rwa[eV,aK,UInt8.zero_xor]at this
   intro c hc;rcases List.mem_cons.1 hc with rfl|hc
   ·rfl
   ·exact this c hc
 have:=xQ (by rw[hTl,hlen]) hd;intro j;rw[<-hco,this]
theorem iJ(xs:BL)(x y:UInt8)(hx:x≠0)(h:gm x y=1):evL (aV xs) y=0↔x∈xs:=by
 rw[<-pI,NY _ _ _ h (by rw[az];omega),bS _ _ (T8 hx _)]
def cv(f s:Nat->UInt8)(k:Nat):UInt8:=sm (fun i=>gm (f i) (s (k-i))) (k+1)
theorem UC(G:BL)(x:UInt8)(s:Nat->UInt8)(k:Nat):cv (co (ny G x)) s k=cv (co G) s k^^^gm x (ps 1 (cv (co G) s) k):=by
 unfold cv;have e:∀i,i<k+1->gm (co (ny G x) i) (s (k-i))=gm (co G i) (s (k-i))^^^gm x (gm (if i=0 then 0 else co G (i-1)) (s (k-i))):=fun i _=>by
  rw[Ge,iY,aS]
 rw[aW e,mF,jC];congr 2
 rw[iB,if_pos rfl,aK,UInt8.zero_xor];unfold ps;cases k with
 |zero=>rw[if_neg qO];rfl
 |succ k=>
  rw[if_pos qO,Nat.add_sub_cancel];exact aW fun i _=>by rw[if_neg qO,Nat.add_sub_cancel,show k+1-(i+1)=k-i by omega]
theorem YF(G:BL)(x:UInt8)(k:Nat):cv (co (ny G x)) (px x) k=co G k:=by
 rw[UC];unfold ps;cases k with
 |zero=>
  rw[if_neg qO,aO,UInt8.xor_zero];show(0:UInt8)^^^gm (co G 0) 1=_;rw[cd,UInt8.zero_xor]
 |succ k=>
  rw[if_pos qO,Nat.add_sub_cancel];unfold cv;show(sm (fun i=>gm (co G i) (px x (k+1-i))) (k+1)^^^gm (co G (k+1)) (px x (k+1-(k+1))))^^^_=_;have e:∀i,i<k+1->gm (co G i) (px x (k+1-i))=gm x (gm (co G i) (px x (k-i))):=fun i hi=>by
   rw[show k+1-i=k-i+1 by omega,px,<-aS,aX]
  rw[aW e,jC,Nat.sub_self,px,cd,UInt8.xor_comm,<-UInt8.xor_assoc,UInt8.xor_self,UInt8.zero_xor]
theorem VR(f s r:Nat->UInt8)(y:UInt8)(k:Nat):cv f (fun j=>s j^^^gm y (r j)) k=cv f s k^^^gm y (cv f r k):=by
 unfold cv;rw[<-jC,<-mF];refine aW fun i _=>?_
 rw[fj,<-aS,aX (f i) y,aS]
theorem Gh(l:List (UInt8×UInt8))(e:UInt8×UInt8)(j:Nat):ls (l++[e]) j=ls l j^^^gm e.1 (px e.2 j):=by
 induction l with
 |nil=>
  show gm e.1 (px e.2 j)^^^0=0^^^_;rw[UInt8.xor_zero,UInt8.zero_xor]
 |cons d l ih=>rw[List.cons_append,d6,d6,ih,UInt8.xor_assoc]
theorem N2(l:List (UInt8×UInt8))(k:Nat)(hk:l.length<=k):cv (co (aV (l.map (·.2)))) (ls l) k=0:=by
 have h:=(zJ l (k+1)).run k hk qO;rw[<-h];unfold cv dis;exact fW qO fun i hi=>by rw[aZ (by rw[az];simp;omega),aK]
theorem N3(O G:Nat->UInt8)(x y z:UInt8)(N m:Nat)(hm:m<N)(hO:∀k,m<=k->O k=0):ev N (fun k=>(O k^^^gm x (ps 1 O k))^^^gm y (G k)) z=gm (1^^^gm x z) (ev N O z)^^^gm y (ev N G z):=by
 rw[uQ,uQ,Fh,Fh];congr 1
 have h:=L0 1 (N-1) O z;rw[show 1+(N-1)=N by omega]at h;rw[h,iY,iX,aS];congr 2
 rw[show px z 1=z from by rw[px,px,iX]];rw[<-fA (show N-1<=N by omega) (fun i hi=>hO i qO)]
theorem UD(G:BL)(x:UInt8)(k:Nat):pd (co (ny G x)) k=(pd (co G) k^^^gm x (ps 1 (pd (co G)) k))^^^gm x (co G k):=by
 have e:co (ny G x)=fun k=>co G k^^^gm x (ps 1 (co G) k):=funext fun k=>by
  rw[Ge];congr 2
  unfold ps;by_cases h:k=0
  ·subst h;rw[if_pos rfl,if_neg qO]
  ·rw[if_neg h,if_pos qO]
 rw[e,L6,T0,T7,if_pos qD,fj];have e2:ps (1-1) (co G) k=co G k:=by
  unfold ps;rw[if_pos qO,Nat.sub_zero]
 rw[e2,UInt8.xor_assoc];congr 1
 exact UInt8.xor_comm _ _
theorem N4{f:Nat->UInt8}{n:Nat}(h:∀i,n<i->f i=0)(i:Nat)(hi:n<=i):pd f i=0:=by
 unfold pd;split
 ·exact h _ qO
 ·rfl
theorem VS(l:List (UInt8×UInt8))(N:Nat)(hN:l.length<N):∀e∈l,∀z,gm e.2 z=1->
  gm e.2 (ev N (cv (co (aV (l.map (·.2)))) (ls l)) z)=gm e.1 (ev N (pd (co (aV (l.map (·.2))))) z):=by
 have hr:∀(r:List (UInt8×UInt8)),r.length<N->∀e∈r.reverse,∀z,gm e.2 z=1->gm e.2 (ev N (cv (co (aV (r.reverse.map (·.2)))) (ls r.reverse)) z)=gm e.1 (ev N (pd (co (aV (r.reverse.map (·.2))))) z):=by
  intro r;induction r with
  |nil=>intro _ e he;cases he
  |cons d r ih=>
   intro hN e he z hz;simp only[List.length_cons]at hN;rw[List.reverse_cons]at he⊢;obtain⟨l,hl⟩:=qM r.reverse;have hll:l.length=r.length:=by rw[<-hl];simp
   rw[hl]at he ih⊢;obtain⟨G,hG⟩:=qM (aV (l.map (·.2)));have e1:aV ((l++[d]).map (·.2))=ny G d.2:=by
    rw[List.map_append,List.map_cons,List.map_nil,sN,hG]
   have e2:cv (co (ny G d.2)) (ls (l++[d]))=fun k=>(cv (co G) (ls l) k^^^gm d.2 (ps 1 (cv (co G) (ls l)) k))^^^gm d.1 (co G k):=funext fun k=>by
    have:ls (l++[d])=fun j=>ls l j^^^gm d.1 (px d.2 j):=funext fun j=>Gh l d j
    rw[this,VR,YF,UC]
   have e3:pd (co (ny G d.2))=fun k=>(pd (co G) k^^^gm d.2 (ps 1 (pd (co G)) k))^^^gm d.2 (co G k):=funext fun k=>UD G d.2 k
   have hGl:∀i,l.length<i->co G i=0:=fun i hi=>by rw[<-hG];exact aZ (by rw[az];simp;omega)
   rw[e1,e2,e3,N3 _ _ _ _ _ N l.length qO (fun k hk=>by rw[<-hG];exact N2 l k hk),N3 _ _ _ _ _ N l.length qO (fun k hk=>N4 hGl k hk)];by_cases hde:gm d.2 z=1
   ·--the last one,or of its value
    have hez:e.2=d.2:=by
     have h1:gm e.2 (gm d.2 z)=gm d.2 (gm e.2 z):=by rw[<-aS,aX e.2 d.2,aS]
     rw[hde,hz,cd,cd]at h1;exact h1
    rw[hde,UInt8.xor_self,aK,aK,UInt8.zero_xor,UInt8.zero_xor];rcases List.mem_append.1 he with hel|hed
    ·--then the product is 0 there
     have hx0:e.2≠0:=fun h=>by rw[h,aK]at hz;exact absurd hz qD
     have h0:=(iJ (l.map (·.2)) e.2 z hx0 hz).2 (List.mem_map.2 ⟨e,hel,rfl⟩);have hev:ev N (co G) z=0:=by
      rw[<-h0,<-hG];unfold evL;exact fA (by rw[az];simp;omega) (fun i hi=>aZ hi)
     rw[hev,aO,aO,aO,aO]
    ·have:e=d:=by simpa using hed
     subst this;rw[<-aS,<-aS,aX e.2 e.1]
   ·rcases List.mem_append.1 he with hel|hed
    ·have hx0:e.2≠0:=fun h=>by rw[h,aK]at hz;exact absurd hz qD
     have h0:=(iJ (l.map (·.2)) e.2 z hx0 hz).2 (List.mem_map.2 ⟨e,hel,rfl⟩);have hev:ev N (co G) z=0:=by
      rw[<-h0,<-hG];unfold evL;exact fA (by rw[az];simp;omega) (fun i hi=>aZ hi)
     have h3:=ih qO e hel z hz;rw[hG]at h3;rw[hev,aO,aO,UInt8.xor_zero,UInt8.xor_zero];generalize 1^^^gm d.2 z=u at*;rw[<-aS,aX e.2 u,aS,h3,<-aS,<-aS,aX u e.1]
    ·have:e=d:=by simpa using hed
     subst this;exact absurd hz hde
 intro e he;have:=hr l.reverse (by simpa using hN);rw[List.reverse_reverse]at this;exact this e he
theorem N5(xs:BL)(hn:xs.Nodup)(N:Nat)(hN:xs.length<N):∀x∈xs,∀z,gm x z=1->ev N (pd (co (aV xs))) z≠0:=by
 have hr:∀(r:BL),r.reverse.Nodup->r.length<N->∀x∈r.reverse,∀z,gm x z=1->ev N (pd (co (aV r.reverse))) z≠0:=by
  intro r;induction r with
  |nil=>intro _ _ x hx;cases hx
  |cons d r ih=>
   intro hn hN x hx z hz;simp only[List.length_cons]at hN;rw[List.reverse_cons]at hx hn⊢;obtain⟨l,hl⟩:=qM r.reverse;have hll:l.length=r.length:=by rw[<-hl];simp
   rw[hl]at hx ih hn⊢;have hna:=List.nodup_append.1 hn;obtain⟨G,hG⟩:=qM (aV l);have hx0:x≠0:=fun h=>by rw[h,aK]at hz;exact absurd hz qD
   have e3:pd (co (ny G d))=fun k=>(pd (co G) k^^^gm d (ps 1 (pd (co G)) k))^^^gm d (co G k):=funext fun k=>UD G d k
   have hGl:∀i,l.length<i->co G i=0:=fun i hi=>by rw[<-hG];exact aZ (by rw[az];omega)
   have hev:ev N (co G) z=evL (aV l) z:=by
    rw[<-hG];unfold evL;exact fA (by rw[az];omega) (fun i hi=>aZ hi)
   rw[sN,hG,e3,N3 _ _ _ _ _ N l.length qO (fun k hk=>N4 hGl k hk),hev];rcases List.mem_append.1 hx with hxl|hxd
   ·rw[(iJ l x z hx0 hz).2 hxl,aO,UInt8.xor_zero];have h3:=ih hna.1 qO x hxl z hz;rw[hG]at h3;have hne:1^^^gm d z≠0:=fun h=>by
     have h1:(1:UInt8)=gm d z:=bI _ _ h;have h2:gm x (gm d z)=gm d (gm x z):=by rw[<-aS,aX x d,aS]
     rw[<-h1,hz,cd,cd]at h2;exact hna.2.2 x hxl d qS h2
    intro h;exact h3 ((bS _ _ hne).1 h)
   ·have:x=d:=by simpa using hxd
    subst this;rw[hz,UInt8.xor_self,aK,UInt8.zero_xor];intro h;have:=(bS _ _ hx0).1 h;exact hna.2.2 x ((iJ l x z hx0 hz).1 this) x qS rfl
 have:=hr xs.reverse (by rw[List.reverse_reverse];exact hn) (by simpa using hN);rw[List.reverse_reverse]at this;exact this
theorem RV(s:Nat->UInt8)(C:BL)(L n:Nat)(h:C.length<=L+1):sm (fun j=>gm (co C j) (s (n-j))) C.length=dis s (co C) L n:=
 (fW h fun j hj=>by rw[aZ hj,aK]).symm
def gX(C B:BL)(a:UInt8)(x:Nat):BL:=tab (fun j=>co C j^^^gm a (ps x (co B) j)) (max C.length (x+B.length))
theorem j1(C B:BL)(a:UInt8)(x:Nat):(gX C B a x).length=max C.length (x+B.length):=by simp[gX]
theorem B7(C B:BL)(a:UInt8)(x:Nat):co (gX C B a x)=vh (co C) (co B) a x:=funext fun j=>by
 unfold gX vh;refine kM _ _ _ fun i hi=>?_
 unfold ps;rw[aZ qO];split
 ·rw[aZ qO,aO];rfl
 ·rw[aO];rfl
structure Reg(s:Nat->UInt8)(n:Nat)(C:BL)(L:Nat)(B:BL)(b:UInt8)(x:Nat):Prop where
 run:Run s n (co C) L
 least:Least s n L
 le:L<=n
 len:C.length<=L+1
 bpos:1<=B.length
 bne:b≠0
 xle:x<=n
 blen:x+B.length<=n+1
 old:(L=0/\x=n/\B=[1]/\b=1)∨∃M m,Run s m (co B) M/\B.length<=M+1/\L+M=m+1/\x+m+1=n/\dis s (co B) M m=b
theorem Reg.pos{s:Nat->UInt8}{n L x:Nat}{C B:BL}{b:UInt8}(h:Reg s n C L B b x):1<=C.length:=by
 have:=Fy (ys:=C) (i:=0) (by rw[h.run.one];decide);omega
theorem Reg.first(s:Nat->UInt8):Reg s 0 [1] 0 [1] 1 0:=
 ⟨Run.first rfl,fun d M k=>Nat.zero_le _,Nat.le_refl _,Nat.le_refl _,Nat.le_refl _,qD,Nat.le_refl _,Nat.le_refl _,.inl ⟨rfl,rfl,rfl,rfl⟩⟩
theorem Reg.same{s:Nat->UInt8}{n L x:Nat}{C B:BL}{b:UInt8}(h:Reg s n C L B b x)(hd:dis s (co C) L n=0):Reg s (n+1) C L B b (x+1):=
 ⟨h.run.more fun _=>hd,h.least.more,by have:=h.le;omega,h.len,h.bpos,h.bne,by have:=h.xle;omega,by have:=h.blen;omega,by
  rcases h.old with ⟨h1,h2,h3,h4⟩|⟨M,m,h1,h2,h3,h4,h5⟩
  ·exact .inl ⟨h1,qO,h3,h4⟩
  ·exact .inr ⟨M,m,h1,h2,h3,qO,h5⟩⟩
theorem Reg.mended{s:Nat->UInt8}{n L x:Nat}{C B:BL}{b:UInt8}(h:Reg s n C L B b x)(hd:dis s (co C) L n≠0):
  Run s (n+1) (co (gX C B (gd (dis s (co C) L n) b) (x+1))) (max L (n+1-L))/\(gX C B (gd (dis s (co C) L n) b) (x+1)).length<=max L (n+1-L)+1:=by
 have hl:=h.len;have hb:=h.blen;have hle:=h.le;rw[B7,j1];rcases h.old with ⟨h1,h2,h3,h4⟩|⟨M,m,h1,h2,h3,h4,h5⟩
 ·subst h1;refine⟨?_,qO⟩;have:max 0 (n+1-0)=n+1:=qO;rw[this];refine Run.first ?_;unfold vh ps;rw[if_neg qO,aO,UInt8.xor_zero,h.run.one]
 ·have hx:x+1=n-m:=qO;have hs:=Run.step h.run (fun j hj=>aZ qO) h1 (fun j hj=>aZ qO) qO h3 (show gm (gd (dis s (co C) L n) b) (dis s (co B) M m)=dis s (co C) L n by rw[h5];exact sj _ _ h.bne);rw[<-hx]at hs;exact⟨hs.1,qO⟩
theorem Reg.longer{s:Nat->UInt8}{n L x:Nat}{C B:BL}{b:UInt8}(h:Reg s n C L B b x)(hd:dis s (co C) L n≠0)(h2:2*L<n+1):
  Reg s (n+1) (gX C B (gd (dis s (co C) L n) b) (x+1)) (n+1-L) C (dis s (co C) L n) 0:=by
 have hm:=h.mended hd;have hle:=h.le;have hl:=h.len;have e:max L (n+1-L)=n+1-L:=qO;have hls:=h.least.step h.run hd;rw[e]at hm hls;exact⟨hm.1,hls,qO,hm.2,h.pos,hd,qO,qO,.inr ⟨L,n,h.run,hl,qO,qO,rfl⟩⟩
theorem Reg.still{s:Nat->UInt8}{n L x:Nat}{C B:BL}{b:UInt8}(h:Reg s n C L B b x)(hd:dis s (co C) L n≠0)(h2:¬2*L<n+1):
  Reg s (n+1) (gX C B (gd (dis s (co C) L n) b) (x+1)) L B b (x+1):=by
 have hm:=h.mended hd;have hls:=h.least.step h.run hd;have hle:=h.le;have e:max L (n+1-L)=L:=qO;rw[e]at hm hls;refine⟨hm.1,hls,qO,hm.2,h.bpos,h.bne,by have:=h.xle;omega,by have:=h.blen;omega,?_⟩;rcases h.old with ⟨h1,_⟩|⟨M,m,h1,h2,h3,h4,h5⟩
 ·omega
 ·exact .inr ⟨M,m,h1,h2,h3,qO,h5⟩
end Gf
def EN(C r:BL)(k:Nat):UInt8:=Gf.sm (fun j=>Gf.gm (co C j) (co r (r.length-1-j))) k
def YG(C r:BL)(w:World)(s iv:Value)(wr:World):Prop:=
 ∃k:Nat,k<=C.length/\iv=.int .i64 k/\s=.int .u8 ((EN C r k).toNat:Int)/\Kit.Dn w wr
theorem RX(b T:Nat)(Ct:Array Value)(C r:BL)(oC oR:Option Addr)(cC cR:Nat)(w:World)(hT:TabAt w T Ct)(hqt:Boxed w b 263 (.pointer (some ⟨T,0,none⟩)))
  (hqn:Boxed w (b+2) 22 (.slice oC C.length cC)) (hC:RowIs w oC (bytesV C) cC) (hR:RowIs w oR (bytesV r) cR) (hle:C.length<=r.length):
  Calls Tryz.prog 222 #[.slice oR r.length cR,.pointer (some ⟨b+2,0,none⟩),.pointer (some ⟨b,0,none⟩)] w fun e w'=>e=.returned (.int .u8 ((EN C r C.length).toNat:Int))/\Kit.Dn w w':=by
 have h1:=hC.le;have h2:=hC.cap;have h3:=hR.le;have h4:=hR.cap;simp only[bytesV_length]at h1 h3;unfold maxLen at h2 h4;have HT:=Lh hT;have HQT:=Lh hqt;have hcn:=hqn.cell;have HC:=Lh hC;have HR:=Lh hR;clear hT hqt hqn hC hR;go_enter Tryz.func222,Tryz.ntmps222
 go_wp2_with fail;clear hcn;go_loopw [5,6,7,10] (fun s _ _ i wr=>YG C r w s i wr) (fun _ _ _ i _=>C.length-(intOf i).toNat)
 case atStart=>exact⟨0,Nat.zero_le _,rfl,rfl,Kit.Dn.refl _⟩
 case round=>
  obtain⟨k,hk,rfl,rfl,hd⟩:=hrel;have HD:=Lh hd;clear hd;by_cases hlt:k<C.length
  ·obtain⟨b1,off1,rfl,hb1,hcell⟩:=(HC.out.later HD.out.below).cells (by simp;omega);obtain⟨b2,off2,rfl,hb2,hcell2⟩:=(HR.out.later HD.out.below).cells (by simp;omega);have hc1:wr.cell? ⟨b1,off1+k,none⟩=some (.int .u8 ((co C k).toNat:Int)):=hcell k _ (aB C k hlt);obtain⟨m,hm⟩:=qM (r.length-1-k);have hc2:wr.cell? ⟨b2,off2+m,none⟩=some (.int .u8 ((co r m).toNat:Int)):=hcell2 m _ (aB r m qO);have hct:=(aC HQT.out HD.out.below).cell;have HS:Hid (EN C r k^^^Gf.gm (co C k) (co r m)=EN C r (k+1)):=Lh (by rw[<-hm];rfl);have hw1:IntKind.i64.wrap ((r.length:Int)-1)=(r.length:Int)-1:=by rw[IntKind.wrap_i64];omega
   have hw2:IntKind.i64.wrap ((r.length:Int)-1-(k:Int))=(m:Int):=by rw[IntKind.wrap_i64];omega
   have hm0:(0:Int)<=(m:Int):=qO;have hm1:(m:Int)<(r.length:Int):=qO;have HM:=Lh hm;generalize EN C r k=s at*;generalize co C k=x at*;generalize co r m=y at*;have hx:=UInt8.toNat_lt x;have hs:=UInt8.toNat_lt s;have hy:=UInt8.toNat_lt y;have MC:Hid (∀n,Calls Tryz.prog 195 #[.pointer (some ⟨T,0,none⟩),.int .u8 (x.toNat:Int),.int .u8 (y.toNat:Int)] (wr.drewN n) fun e w'=>e=.returned (.int .u8 ((Gf.gm x y).toNat:Int))/\∃m,w'=(wr.drewN n).drewN m):=Lh fun n=>qj x y T Ct _ ((HT.out.later HD.out.below).later (Kit.dn' _ _))
   generalize Gf.gm x y=u at*;have hu:=UInt8.toNat_lt u;have AC:Hid (∀v:World,Calls Tryz.prog 184 #[.int .u8 (s.toNat:Int),.int .u8 (u.toNat:Int)] v fun e w'=>e=.returned (.int .u8 ((s^^^u).toNat:Int))/\w'=v):=Lh fun v=>nU s u v
   generalize hq:s^^^u=q at*;have HQ:=Lh hq;clear hcell hcell2 hm hq;go_wp2_with fail;go_quiet ((first|(go_at_call 195;exact Calls.quiet_of (MC.out _))|(go_at_call 184;exact Calls.quiet_of_same (AC.out _))))
   go_wp2
   go_roundw
   case rel=>exact⟨k+1,qO,by go_num,by rw[<-HS.out],HD.out.add _⟩
   case measure=>simp[intOf];omega
  ·obtain rfl:k=C.length:=qO;go_wp2
   go_ret;exact⟨rfl,HD.out⟩
theorem B8(C B:BL)(a:UInt8)(x n:Nat)(h1:C.length<=n)(h2:x+B.length<=n)(hn:n=max C.length (x+B.length)):mix (splice (List.replicate n 0) 0 C) x B a=Gf.gX C B a x:=by
 have hl:(splice (List.replicate n (0:UInt8)) 0 C).length=n:=by rw[length_splice _ _ _ (by simp only[List.length_replicate];omega)];simp
 refine aN (by rw[ji,hl,Gf.j1,hn]) fun i hi=>?_
 rw[ji,hl]at hi;rw[kq _ _ _ _ _ qO,j7 _ _ _ _ (by simp only[List.length_replicate];omega),Gf.B7,cw];unfold Gf.vh;congr 1
 ·rw[Nat.sub_zero];split
  ·rfl
  ·exact(aZ qO).symm
 ·unfold Gf.ps;split
  ·rw[Gf.aX]
  ·rw[Gf.aO]
section
variable {P:Program} {ops:Array Oper} {Q:Exit->Act->World->Prop} {i:Nat} {o:Oper} {b:Act} {v v':World} {x:Value} {K:Act->World->Prop}
theorem VT(ho:ops[i]? =some o)(hg:o.guard=none)(h:(execOp b.eval o).run P v=.ok (.value x) v)(hk:K (b.put o.dst x) v):wpOp P ops Q i K b v:=by
 unfold wpOp;rw[ho];dsimp only;rw[if_pos (by simp[Region.wanted,hg])];refine .inl ?_;unfold Oper.wp;rw[h];exact hk
theorem zL{d:Tmp}(ho:ops[i]? =some o)(hd:o.dst=some d)(hg:o.guard=none)(h:(execOp b.eval o).run P v=.ok (.value x) v)(hk:K {b with tmps:=b.tmps.setIfInBounds d x} v):wpOp P ops Q i K b v:=
 VT ho hg h (by rw[hd];exact hk)
theorem kX{d:Tmp}{f:FuncId}{xs:Array Operand}{ts:Array TypeId}{args:Array Value}{R:Value->World->Prop}(ho:ops[i]? =some o)(hd:o.dst=some d)(hg:o.guard=none)
  (hop:o.op=.call {callee:=.value (.func f),args:=xs,argTypes:=ts}) (ek:∀args w,(callFunc f args).run P w=.ok (.enter f args) w) (ha:xs.map b.eval=args) (hc:Calls P f args v fun e v'=>∃x,e=.returned x/\R x v') (h:∀x v',R x v'->K {b with tmps:=b.tmps.setIfInBounds d x} v'):wpOp P ops Q i K b v:=
 Rg.uI ho hg hop ek ha hc fun x v' hR=>by rw[hd];exact h x v' hR
theorem eG{md:Region.Mode}{S:World->Prop}{d:Tmp}{fuel:Nat}{listed:Array Bool}(hi:ops[i]? =some o)(hd:o.dst=some d)
  (hs:Region.noSelect ops=true) (hf:Region.free md ops listed i=true) (hr:(Region.ready md ops listed).contains i=true)
  (hQ:∀c a w,Q (.panic c) (a.put o.dst x) w->Q (.panic c) a w) (hy:YieldsIf P ops S o x b) (hS:S v)
  (h:wpAnyH P md ops Q S fuel (listed.setIfInBounds i true) {b with tmps:=b.tmps.setIfInBounds d x} v):wpAnyH P md ops Q S (fuel+1) listed b v:=
 wpAnyH_take hi hs hf hr hQ hy hS (by rw[hd];exact h)
theorem tg(ho:ops[i]? =some o)(hg:o.guard=none)(hd:o.dst=none)(h:(execOp b.eval o).run P v=.ok .skip v')(hk:K b v'):wpOp P ops Q i K b v:=by
 unfold wpOp;rw[ho];dsimp only;rw[if_pos (by simp[Region.wanted,hg])];refine .inl ?_;unfold Oper.wp;rw[h];show K (b.put o.dst undef) _;rw[hd];exact hk
end
def YH(w0:World)(g n x:Nat)(a:UInt8)(ys B:BL)(i:Value)(wr:World):Prop:=
 ∃k:Nat,k<=B.length/\i=.int .i64 k/\Buf wr g n (mix ys x (B.take k) a)/\Only g w0 wr
theorem EO(b T:Nat)(Ct:Array Value)(C B:BL)(a:UInt8)(x:Nat)(oC oB:Option Addr)(cC cB:Nat)(w:World)(hT:TabAt w T Ct)(hqt:Boxed w b 263 (.pointer (some ⟨T,0,none⟩)))
  (hqn:Boxed w (b+2) 22 (.slice oC C.length cC)) (hqa:Boxed w (b+7) 3 (.int .i64 (x:Int))) (hqo:Boxed w (b+5) 22 (.slice oB B.length cB))
  (hC:RowIs w oC (bytesV C) cC) (hB:RowIs w oB (bytesV B) cB) (hx:x<=1000) (hl1:C.length<=1000) (hl2:B.length<=1000):
  Calls Tryz.prog 223 #[.int .u8 (a.toNat:Int),.pointer (some ⟨b+2,0,none⟩),.pointer (some ⟨b+7,0,none⟩),.pointer (some ⟨b+5,0,none⟩),.pointer (some ⟨b,0,none⟩)] w fun e w'=>
   ∃g cap,e=.returned (.slice (some ⟨g,0,none⟩) (Gf.gX C B a x).length cap)/\w.heap.size<=g/\Below w.heap.size w w'/\RowIs w' (some ⟨g,0,none⟩) (bytesV (Gf.gX C B a x)) cap:=by
 obtain⟨i0,hi,hz0,hz1,hz2⟩:=info_parts ao;have h1:=hC.le;have h2:=hC.cap;have h3:=hB.le;have h4:=hB.cap;simp only[bytesV_length]at h1 h3;unfold maxLen at h2 h4;have hc0:=hqt.cell;have hc2:=hqn.cell;have hc5:=hqo.cell;have hc7:=hqa.cell;have hb7:=hqa.lt;have HT:=Lh hT;have HQT:=Lh hqt;have HQN:=Lh hqn;have HQA:=Lh hqa;have HQO:=Lh hqo;have HC:=Lh hC;have HB:=Lh hB;have hTn:T≠w.heap.size:=by have:=(aE.1 hT.block).1;omega
 clear hT hqt hqn hqa hqo hC hB;have HPOS:Hid (∀w1,Below w.heap.size w w1->0<(bytesV C).length->∃ad,oC=some ad/\∀j v,(bytesV C)[j]? =some v->w1.cell? (ad.add j)=some v):=Lh fun w1 hb h0=>by
  have hr:=HC.out.later hb;obtain⟨b,off,rfl,_,_⟩:=hr.cells h0;exact⟨_,rfl,hr.adds _ rfl⟩
 have hws:IntKind.i64.wrap ((x:Int)+(B.length:Int))=(x:Int)+(B.length:Int):=by rw[IntKind.wrap_i64];omega
 obtain⟨y,hy⟩:=qM (x+B.length);have hyi:(x:Int)+(B.length:Int)=(y:Int):=qO;rw[hyi]at hws;have HY:=Lh hy;by_cases hcy:C.length<y
 ·have hpi:(C.length:Int)<(y:Int):=qO;have HN:Hid (y=max C.length (x+B.length)):=Lh qO;have hn1:C.length<=y:=qO;have hn2:x+B.length<=y:=qO;clear hcy hy;go_enter Tryz.func223,Tryz.ntmps223
  go_wp2_with (at_make;go_loud (refine wpList_make_full _ rfl _ _ 22 rfl 0 5 i0 (.int .u8 0) 1 Tryz.underlying22 hi hz0 hz1 _ _ _ _ y rfl rfl qO qO (by rw[hz2];omega) (by unfold maxLen;omega) (Nat.zero_le _) ?_))
  intro w1 hown hgrow;have hb1:Below w.heap.size w w1:=qB.grown hgrow qN (fun k h=>by cases h);have hfull:Full w1 w.heap.size (List.replicate y 0):=(bK hown).full qS;have HB1:=Lh hb1;have HF1:=Lh hfull;have hc2b:=(aC HQN.out hb1).cell;clear hown hgrow hb1 hfull;go_wp2_with (refine wpList_copy_splice rfl (.tmp 18) (.tmp 19) 22 22 rfl 5 Tryz.underlying22 (by rw[hi];simp[hz1]) _ _ _ _ _ _ rfl rfl w.heap.size 0 (bytesV (List.replicate y 0)) 5 HF1.out (bytesV C) (by simp only[bytesV_length];exact(Nat.min_eq_left qO).symm) (fun h0=>⟨rfl,HPOS.out _ HB1.out h0⟩) (by rw[bytesV_length,bytesV_length,List.length_replicate];omega) (aG C) w.heap.size w HB1.out qN ?_)
  intro w2 hfull2 hb2;have hmixl:(splice (List.replicate y (0:UInt8)) 0 C).length=y:=by rw[length_splice _ _ _ (by simp only[List.length_replicate];omega)];simp
  have hbuf:Buf w2 w.heap.size y (splice (List.replicate y 0) 0 C):=by
   have h:Full w2 w.heap.size (splice (List.replicate y 0) 0 C):=by unfold Full;rw[<-dM];exact hfull2
   have:=h.buf (by rw[hmixl];unfold maxLen;omega);rw[hmixl]at this;exact this
  have HMM:=Lh (B8 C B a x y hn1 hn2 HN.out);obtain⟨ys,hys⟩:=qM (splice (List.replicate y (0:UInt8)) 0 C);rw[hys]at hbuf hmixl HMM;have HAP:=Lh (HB.out.apart (g:=w.heap.size) qN);have HBUF:=Lh hbuf;have HB2:=Lh hb2;have hc5b:=(aC HQO.out hb2).cell;have HC0:=Lh (aC HQT.out hb2);have HC7:=Lh (aC HQA.out hb2);have HT2:=Lh (HT.out.later hb2);have HR2:=Lh (HB.out.later hb2);clear hfull2 hb2 hbuf hys hc0 hc2 hc5 hc7;go_wp2_with fail;clear hc2b hc5b;go_loopw [8,9,23] (fun _ _ i wr=>YH w2 w.heap.size y x a ys B i wr) (fun _ _ i _=>B.length-(intOf i).toNat)
  case atStart=>exact⟨0,Nat.zero_le _,rfl,by rw[nS];exact HBUF.out,Only.refl _ _⟩
  case round=>
   obtain⟨k,hk,rfl,hb,ho⟩:=hrel;by_cases hlt:k<B.length
   ·obtain⟨b1,off1,rfl,hb1,hcell⟩:=(ho.row HR2.out HAP.out).cells (by simp;omega);have hc1:wr.cell? ⟨b1,off1+k,none⟩=some (.int .u8 ((co B k).toNat:Int)):=hcell k _ (aB B k hlt);have hq7:Boxed wr (b+7) 3 (.int .i64 (x:Int)):=HC7.out.kept ho (by simp;omega);have hq0:Boxed wr b 263 (.pointer (some ⟨T,0,none⟩)):=HC0.out.kept ho (by simp;omega);obtain⟨m,hm⟩:=qM (x+k);have hs2:=hb.cell (x+k) (by simp;omega);have hf2:=hb.frozen (x+k);have HMX:=Lh (nT ys x B a k hlt qO);have hst:=fun(v:World)(hv:Kit.Dn wr v)=>(hb.later hv.below).store (x+k) (co (mix ys x (B.take k) a) (x+k)^^^Gf.gm (co B k) a)
    rw[HMX.out]at hst;have hwm:IntKind.i64.wrap ((x:Int)+(k:Int))=(m:Int):=by rw[IntKind.wrap_i64];omega
    rw[hm]at hs2 hf2 hst;have HTW:=Lh (ho.tab HT2.out hTn);have MC:Hid (∀v:World,TabAt v T Ct->Calls Tryz.prog 195 #[.pointer (some ⟨T,0,none⟩),.int .u8 ((co B k).toNat:Int),.int .u8 (a.toNat:Int)] v fun e w'=>e=.returned (.int .u8 ((Gf.gm (co B k) a).toNat:Int))/\∃m,w'=v.drewN m):=Lh fun v hv=>qj (co B k) a T Ct v hv
    generalize co (mix ys x (B.take k) a) m=s at*;generalize Gf.gm (co B k) a=u at*;generalize co B k=z at*;have hzl:=UInt8.toNat_lt z;have hsl:=UInt8.toNat_lt s;have hal:=UInt8.toNat_lt a;have hul:=UInt8.toNat_lt u;have AC:Hid (∀v:World,Calls Tryz.prog 184 #[.int .u8 (s.toNat:Int),.int .u8 (u.toNat:Int)] v fun e w'=>e=.returned (.int .u8 ((s^^^u).toNat:Int))/\w'=v):=Lh fun v=>nU s u v
    generalize s^^^u=r at*;have hca:=hq7.cell;have hct:=hq0.cell;have HK:Hid (∀v,Kit.Dn wr v->v.cell? ⟨b+7,0,none⟩=some (.int .i64 (x:Int))/\v.cell? ⟨b,0,none⟩=some (.pointer (some ⟨T,0,none⟩))):=Lh fun v hv=>⟨(aC hq7 hv.below).cell,(aC hq0 hv.below).cell⟩
    have HK2:Hid (∀v,Kit.Dn wr v->(v.setCell ⟨w.heap.size,m,none⟩ (.int .u8 (r.toNat:Int))).cell? ⟨b+7,0,none⟩=some (.int .i64 (x:Int))/\(v.setCell ⟨w.heap.size,m,none⟩ (.int .u8 (r.toNat:Int))).cell? ⟨b,0,none⟩=some (.pointer (some ⟨T,0,none⟩))):=Lh fun v hv=>⟨((aC hq7 hv.below).kept (hst v hv).2 (by simp;omega)).cell,((aC hq0 hv.below).kept (hst v hv).2 (by simp;omega)).cell⟩
    have HS:=Lh hst;have HO:=Lh ho;have hm0:(0:Int)<=(m:Int):=qO;have hm1:(m:Int)<(y:Nat):=qO;have HM:=Lh hm;clear hcell hb ho hst HMX hm hq7 hq0;go_wp2_with fail;have HCE:Hid (wr.cell? ⟨w.heap.size,m,none⟩=some (.int .u8 (s.toNat:Int))):=Lh hs2;have HFR:Hid (wr.frozen? ⟨w.heap.size,m,none⟩=false):=Lh hf2;refine wp_region_noPanic ?_;refine wp_region_held_drew (S:=(fun w'=>w'.cell? ⟨b+7,0,none⟩=some (.int .i64 (x:Int))/\w'.cell? ⟨b,0,none⟩=some (.pointer (some ⟨T,0,none⟩)))) qK (HK.out _ ⟨1,rfl⟩) (fun hHeld=>?_);clear hs2 hf2 hc1;refine eG (i:=0) (x:=.slice (some ⟨w.heap.size,0,none⟩) y y) rfl rfl qK qK qK qI (Or.inl ⟨by rfl,fun w hSw=>by(try dsimp only at hSw);obtain⟨hs7,hs0⟩:=hSw;(go_simp<;>with_reducible rfl)⟩) (by assumption) ?_;simp only[qA,qZ,qC];refine eG (i:=1) (x:=.int .i64 (x:Int)) rfl rfl qK qK qK qI (Or.inl ⟨by rfl,fun w hSw=>by(try dsimp only at hSw);obtain⟨hs7,hs0⟩:=hSw;(go_simp<;>with_reducible rfl)⟩) (by assumption) ?_;simp only[qA,qZ,qC];refine eG (i:=2) (x:=.int .i64 (k:Int)) rfl rfl qK qK qK qI (Or.inl ⟨by rfl,fun w hSw=>by(try dsimp only at hSw);obtain⟨hs7,hs0⟩:=hSw;(go_simp<;>with_reducible rfl)⟩) (by assumption) ?_;simp only[qA,qZ,qC];refine eG (i:=3) (x:=.int .i64 (m:Int)) rfl rfl qK qK qK qI (Or.inl ⟨by rfl,fun w hSw=>by(try dsimp only at hSw);obtain⟨hs7,hs0⟩:=hSw;(go_simp<;>with_reducible rfl)⟩) (by assumption) ?_;simp only[qA,qZ,qC];refine eG (i:=4) (x:=.slice (some ⟨w.heap.size,0,none⟩) y y) rfl rfl qK qK qK qI (Or.inl ⟨by rfl,fun w hSw=>by(try dsimp only at hSw);obtain⟨hs7,hs0⟩:=hSw;(go_simp<;>with_reducible rfl)⟩) (by assumption) ?_;simp only[qA,qZ,qC];refine eG (i:=5) (x:=.int .i64 (x:Int)) rfl rfl qK qK qK qI (Or.inl ⟨by rfl,fun w hSw=>by(try dsimp only at hSw);obtain⟨hs7,hs0⟩:=hSw;(go_simp<;>with_reducible rfl)⟩) (by assumption) ?_;simp only[qA,qZ,qC];refine eG (i:=6) (x:=.int .i64 (k:Int)) rfl rfl qK qK qK qI (Or.inl ⟨by rfl,fun w hSw=>by(try dsimp only at hSw);obtain⟨hs7,hs0⟩:=hSw;(go_simp<;>with_reducible rfl)⟩) (by assumption) ?_;simp only[qA,qZ,qC];refine eG (i:=7) (x:=.int .i64 (m:Int)) rfl rfl qK qK qK qI (Or.inl ⟨by rfl,fun w hSw=>by(try dsimp only at hSw);obtain⟨hs7,hs0⟩:=hSw;(go_simp<;>with_reducible rfl)⟩) (by assumption) ?_;simp only[qA,qZ,qC];refine eG (i:=8) (x:=.pointer (some ⟨w.heap.size,m,none⟩)) rfl rfl qK qK qK qI (Or.inl ⟨by rfl,fun w hSw=>by(try dsimp only at hSw);obtain⟨hs7,hs0⟩:=hSw;(go_simp<;>with_reducible rfl)⟩) (by assumption) ?_;simp only[qA,qZ,qC];refine eG (i:=10) (x:=.pointer (some ⟨T,0,none⟩)) rfl rfl qK qK qK qI (Or.inl ⟨by rfl,fun w hSw=>by(try dsimp only at hSw);obtain⟨hs7,hs0⟩:=hSw;(go_simp<;>with_reducible rfl)⟩) (by assumption) ?_;simp only[qA,qZ,qC];refine eG (i:=11) (x:=.int .u8 (z.toNat:Int)) rfl rfl qK qK qK qI (Or.inl ⟨by rfl,fun w hSw=>by(try dsimp only at hSw);obtain⟨hs7,hs0⟩:=hSw;(go_simp<;>with_reducible rfl)⟩) (by assumption) ?_;simp only[qA,qZ,qC];refine eG (i:=12) (x:=.int .u8 (a.toNat:Int)) rfl rfl qK qK qK qI (Or.inl ⟨by rfl,fun w hSw=>by(try dsimp only at hSw);obtain⟨hs7,hs0⟩:=hSw;(go_simp<;>with_reducible rfl)⟩) (by assumption) ?_
    simp only[qA,qZ,qC];refine wpAnyH_all (rs:=[9,13]) qK qS (List.forall_mem_cons.2 ⟨?_,List.forall_mem_cons.2 ⟨?_,fun _ h=>absurd h List.not_mem_nil⟩⟩)
    ·refine zL (x:=.int .u8 (s.toNat:Int)) rfl rfl rfl ?hx1 ⟨hHeld,?_⟩
     case hx1=>
      have hcl:=HCE.out;have hcl2:World.cell? (World.drew wr) ⟨w.heap.size,m,none⟩=some (.int .u8 (s.toNat:Int)):=HCE.out;simp only[execOp];go_simp<;>with_reducible rfl
     simp only[qA,qZ,qC];refine wpAnyH_all (rs:=[13]) qK qS (List.forall_mem_cons.2 ⟨?_,fun _ h=>absurd h List.not_mem_nil⟩);refine kX rfl rfl rfl rfl (enters_of Tryz.func195 qK rfl) (args:=#[.pointer (some ⟨T,0,none⟩),.int .u8 (z.toNat:Int),.int .u8 (a.toNat:Int)]) (by simp[Act.eval]) (R:=fun y v=>y=.int .u8 (u.toNat:Int)/\∃n,v=(World.drew wr).drewN n) ?hc5 (fun y v hR=>?_);case hc5=>exact(MC.out (World.drew wr) (HTW.out.later (Kit.dn' wr 1))).mono (by rintro e w' ⟨rfl,n',rfl⟩;exact⟨_,rfl,rfl,n',rfl⟩)
     obtain⟨rfl,n',rfl⟩:=hR;replace hHeld:=HK.out _ (Kit.Dn.add (⟨1,rfl⟩:Kit.Dn wr (World.drew wr)) n')
     refine⟨hHeld,?_⟩;simp only[qA,qZ,qC];refine wpAnyH_all (rs:=[14]) qK qS (List.forall_mem_cons.2 ⟨?_,fun _ h=>absurd h List.not_mem_nil⟩);refine kX rfl rfl rfl rfl (enters_of Tryz.func184 qK rfl) (args:=#[.int .u8 (s.toNat:Int),.int .u8 (u.toNat:Int)]) (by simp[Act.eval]) (R:=fun y v=>y=.int .u8 (r.toNat:Int)/\v=(World.drew wr).drewN n') ?hc6 (fun y v hR=>?_);case hc6=>exact(AC.out _).mono (by rintro e w' ⟨rfl,rfl⟩;exact⟨_,rfl,rfl,rfl⟩)
     obtain⟨rfl,rfl⟩:=hR;refine⟨hHeld,?_⟩;simp only[qA,qZ,qC];refine eG (i:=15) (x:=.pointer (some ⟨w.heap.size,m,none⟩)) rfl rfl qK qK qK qI (Or.inl ⟨by rfl,fun w hSw=>by(try dsimp only at hSw);obtain⟨hs7,hs0⟩:=hSw;(go_simp<;>with_reducible rfl)⟩) (by assumption) ?_;simp only[qA,qZ,qC];refine wpAnyH_all (rs:=[16]) qK qS (List.forall_mem_cons.2 ⟨?_,fun _ h=>absurd h List.not_mem_nil⟩);have hst:=HK2.out _ (Kit.Dn.add (⟨1,rfl⟩:Kit.Dn wr (World.drew wr)) n');refine tg (v':=((World.drew wr).drewN n').setCell ⟨w.heap.size,m,none⟩ (.int .u8 (r.toNat:Int))) rfl rfl rfl ?hx2 ⟨hst,?_⟩
     case hx2=>
      have hcl:=HCE.out;have hfl:=HFR.out;simp only[execOp];go_simp<;>with_reducible rfl
     refine wpAnyH_done qK ?_ _;refine NoPanic.normal ?_;go_wp2_with fail;go_roundw
     case rel=>exact⟨k+1,qO,by go_num,(HS.out _ ⟨1+n',rfl⟩).1,HO.out.trans ((Only.of_below (Kit.dn' wr (1+n'))).trans (HS.out _ ⟨1+n',rfl⟩).2)⟩
     case measure=>simp[intOf];omega
    ·refine kX rfl rfl rfl rfl (enters_of Tryz.func195 qK rfl) (args:=#[.pointer (some ⟨T,0,none⟩),.int .u8 (z.toNat:Int),.int .u8 (a.toNat:Int)]) (by simp[Act.eval]) (R:=fun y v=>y=.int .u8 (u.toNat:Int)/\∃n,v=(World.drew wr).drewN n) ?hc7 (fun y v hR=>?_);case hc7=>exact(MC.out (World.drew wr) (HTW.out.later (Kit.dn' wr 1))).mono (by rintro e w' ⟨rfl,n',rfl⟩;exact⟨_,rfl,rfl,n',rfl⟩)
     obtain⟨rfl,n',rfl⟩:=hR;replace hHeld:=HK.out _ (Kit.Dn.add (⟨1,rfl⟩:Kit.Dn wr (World.drew wr)) n')
     refine⟨hHeld,?_⟩;simp only[qA,qZ,qC];refine wpAnyH_all (rs:=[9]) qK qS (List.forall_mem_cons.2 ⟨?_,fun _ h=>absurd h List.not_mem_nil⟩);refine zL (x:=.int .u8 (s.toNat:Int)) rfl rfl rfl ?hx3 ⟨hHeld,?_⟩
     case hx3=>
      have hcl:=HCE.out;have hcl2:World.cell? ((World.drew wr).drewN n') ⟨w.heap.size,m,none⟩=some (.int .u8 (s.toNat:Int)):=HCE.out;simp only[execOp];go_simp<;>with_reducible rfl
     simp only[qA,qZ,qC];refine wpAnyH_all (rs:=[14]) qK qS (List.forall_mem_cons.2 ⟨?_,fun _ h=>absurd h List.not_mem_nil⟩);refine kX rfl rfl rfl rfl (enters_of Tryz.func184 qK rfl) (args:=#[.int .u8 (s.toNat:Int),.int .u8 (u.toNat:Int)]) (by simp[Act.eval]) (R:=fun y v=>y=.int .u8 (r.toNat:Int)/\v=(World.drew wr).drewN n') ?hc8 (fun y v hR=>?_);case hc8=>exact(AC.out _).mono (by rintro e w' ⟨rfl,rfl⟩;exact⟨_,rfl,rfl,rfl⟩)
     obtain⟨rfl,rfl⟩:=hR;refine⟨hHeld,?_⟩;simp only[qA,qZ,qC];refine eG (i:=15) (x:=.pointer (some ⟨w.heap.size,m,none⟩)) rfl rfl qK qK qK qI (Or.inl ⟨by rfl,fun w hSw=>by(try dsimp only at hSw);obtain⟨hs7,hs0⟩:=hSw;(go_simp<;>with_reducible rfl)⟩) (by assumption) ?_;simp only[qA,qZ,qC];refine wpAnyH_all (rs:=[16]) qK qS (List.forall_mem_cons.2 ⟨?_,fun _ h=>absurd h List.not_mem_nil⟩);have hst:=HK2.out _ (Kit.Dn.add (⟨1,rfl⟩:Kit.Dn wr (World.drew wr)) n');refine tg (v':=((World.drew wr).drewN n').setCell ⟨w.heap.size,m,none⟩ (.int .u8 (r.toNat:Int))) rfl rfl rfl ?hx4 ⟨hst,?_⟩
     case hx4=>
      have hcl:=HCE.out;have hfl:=HFR.out;simp only[execOp];go_simp<;>with_reducible rfl
     refine wpAnyH_done qK ?_ _;refine NoPanic.normal ?_;go_wp2_with fail;go_roundw
     case rel=>exact⟨k+1,qO,by go_num,(HS.out _ ⟨1+n',rfl⟩).1,HO.out.trans ((Only.of_below (Kit.dn' wr (1+n'))).trans (HS.out _ ⟨1+n',rfl⟩).2)⟩
     case measure=>simp[intOf];omega
   ·obtain rfl:k=B.length:=qO;have hall:B.take B.length=B:=List.take_length;rw[hall,HMM.out]at hb;have hml:=hb.le;have HR:Hid (RowIs wr (some ⟨w.heap.size,0,none⟩) (bytesV (Gf.gX C B a x)) y):=Lh hb.row;have HL:Hid (y=(Gf.gX C B a x).length):=Lh (by rw[Gf.j1];exact HN.out);have HBW:Hid (Below w.heap.size w wr):=Lh (HB2.out.trans (ho.below qN HB2.out.size));clear hall hb ho;go_wp2_with fail;go_ret;exact⟨w.heap.size,y,by rw[<-HL.out];rfl,Nat.le_refl _,HBW.out,HR.out⟩
 ·have hpi:¬(C.length:Int)<(y:Int):=qO;have HN:Hid (C.length=max C.length (x+B.length)):=Lh qO;have hn1:C.length<=C.length:=qO;have hn2:x+B.length<=C.length:=qO;clear hcy hy;go_enter Tryz.func223,Tryz.ntmps223
  go_wp2_with (at_make;go_loud (refine wpList_make_full _ rfl _ _ 22 rfl 0 5 i0 (.int .u8 0) 1 Tryz.underlying22 hi hz0 hz1 _ _ _ _ C.length rfl rfl qO qO (by rw[hz2];omega) (by unfold maxLen;omega) (Nat.zero_le _) ?_))
  intro w1 hown hgrow;have hb1:Below w.heap.size w w1:=qB.grown hgrow qN (fun k h=>by cases h);have hfull:Full w1 w.heap.size (List.replicate C.length 0):=(bK hown).full qS;have HB1:=Lh hb1;have HF1:=Lh hfull;have hc2b:=(aC HQN.out hb1).cell;clear hown hgrow hb1 hfull;go_wp2_with (refine wpList_copy_splice rfl (.tmp 18) (.tmp 19) 22 22 rfl 5 Tryz.underlying22 (by rw[hi];simp[hz1]) _ _ _ _ _ _ rfl rfl w.heap.size 0 (bytesV (List.replicate C.length 0)) 5 HF1.out (bytesV C) (by simp only[bytesV_length];exact(Nat.min_eq_left qO).symm) (fun h0=>⟨rfl,HPOS.out _ HB1.out h0⟩) (by rw[bytesV_length,bytesV_length,List.length_replicate];omega) (aG C) w.heap.size w HB1.out qN ?_)
  intro w2 hfull2 hb2;have hmixl:(splice (List.replicate C.length (0:UInt8)) 0 C).length=C.length:=by rw[length_splice _ _ _ (by simp only[List.length_replicate];omega)];simp
  have hbuf:Buf w2 w.heap.size C.length (splice (List.replicate C.length 0) 0 C):=by
   have h:Full w2 w.heap.size (splice (List.replicate C.length 0) 0 C):=by unfold Full;rw[<-dM];exact hfull2
   have:=h.buf (by rw[hmixl];unfold maxLen;omega);rw[hmixl]at this;exact this
  have HMM:=Lh (B8 C B a x C.length hn1 hn2 HN.out);obtain⟨ys,hys⟩:=qM (splice (List.replicate C.length (0:UInt8)) 0 C);rw[hys]at hbuf hmixl HMM;have HAP:=Lh (HB.out.apart (g:=w.heap.size) qN);have HBUF:=Lh hbuf;have HB2:=Lh hb2;have hc5b:=(aC HQO.out hb2).cell;have HC0:=Lh (aC HQT.out hb2);have HC7:=Lh (aC HQA.out hb2);have HT2:=Lh (HT.out.later hb2);have HR2:=Lh (HB.out.later hb2);clear hfull2 hb2 hbuf hys hc0 hc2 hc5 hc7;go_wp2_with fail;clear hc2b hc5b;go_loopw [8,9,23] (fun _ _ i wr=>YH w2 w.heap.size C.length x a ys B i wr) (fun _ _ i _=>B.length-(intOf i).toNat)
  case atStart=>exact⟨0,Nat.zero_le _,rfl,by rw[nS];exact HBUF.out,Only.refl _ _⟩
  case round=>
   obtain⟨k,hk,rfl,hb,ho⟩:=hrel;by_cases hlt:k<B.length
   ·obtain⟨b1,off1,rfl,hb1,hcell⟩:=(ho.row HR2.out HAP.out).cells (by simp;omega);have hc1:wr.cell? ⟨b1,off1+k,none⟩=some (.int .u8 ((co B k).toNat:Int)):=hcell k _ (aB B k hlt);have hq7:Boxed wr (b+7) 3 (.int .i64 (x:Int)):=HC7.out.kept ho (by simp;omega);have hq0:Boxed wr b 263 (.pointer (some ⟨T,0,none⟩)):=HC0.out.kept ho (by simp;omega);obtain⟨m,hm⟩:=qM (x+k);have hs2:=hb.cell (x+k) (by simp;omega);have hf2:=hb.frozen (x+k);have HMX:=Lh (nT ys x B a k hlt qO);have hst:=fun(v:World)(hv:Kit.Dn wr v)=>(hb.later hv.below).store (x+k) (co (mix ys x (B.take k) a) (x+k)^^^Gf.gm (co B k) a)
    rw[HMX.out]at hst;have hwm:IntKind.i64.wrap ((x:Int)+(k:Int))=(m:Int):=by rw[IntKind.wrap_i64];omega
    rw[hm]at hs2 hf2 hst;have HTW:=Lh (ho.tab HT2.out hTn);have MC:Hid (∀v:World,TabAt v T Ct->Calls Tryz.prog 195 #[.pointer (some ⟨T,0,none⟩),.int .u8 ((co B k).toNat:Int),.int .u8 (a.toNat:Int)] v fun e w'=>e=.returned (.int .u8 ((Gf.gm (co B k) a).toNat:Int))/\∃m,w'=v.drewN m):=Lh fun v hv=>qj (co B k) a T Ct v hv
    generalize co (mix ys x (B.take k) a) m=s at*;generalize Gf.gm (co B k) a=u at*;generalize co B k=z at*;have hzl:=UInt8.toNat_lt z;have hsl:=UInt8.toNat_lt s;have hal:=UInt8.toNat_lt a;have hul:=UInt8.toNat_lt u;have AC:Hid (∀v:World,Calls Tryz.prog 184 #[.int .u8 (s.toNat:Int),.int .u8 (u.toNat:Int)] v fun e w'=>e=.returned (.int .u8 ((s^^^u).toNat:Int))/\w'=v):=Lh fun v=>nU s u v
    generalize s^^^u=r at*;have hca:=hq7.cell;have hct:=hq0.cell;have HK:Hid (∀v,Kit.Dn wr v->v.cell? ⟨b+7,0,none⟩=some (.int .i64 (x:Int))/\v.cell? ⟨b,0,none⟩=some (.pointer (some ⟨T,0,none⟩))):=Lh fun v hv=>⟨(aC hq7 hv.below).cell,(aC hq0 hv.below).cell⟩
    have HK2:Hid (∀v,Kit.Dn wr v->(v.setCell ⟨w.heap.size,m,none⟩ (.int .u8 (r.toNat:Int))).cell? ⟨b+7,0,none⟩=some (.int .i64 (x:Int))/\(v.setCell ⟨w.heap.size,m,none⟩ (.int .u8 (r.toNat:Int))).cell? ⟨b,0,none⟩=some (.pointer (some ⟨T,0,none⟩))):=Lh fun v hv=>⟨((aC hq7 hv.below).kept (hst v hv).2 (by simp;omega)).cell,((aC hq0 hv.below).kept (hst v hv).2 (by simp;omega)).cell⟩
    have HS:=Lh hst;have HO:=Lh ho;have hm0:(0:Int)<=(m:Int):=qO;have hm1:(m:Int)<(C.length:Nat):=qO;have HM:=Lh hm;clear hcell hb ho hst HMX hm hq7 hq0;go_wp2_with fail;have HCE:Hid (wr.cell? ⟨w.heap.size,m,none⟩=some (.int .u8 (s.toNat:Int))):=Lh hs2;have HFR:Hid (wr.frozen? ⟨w.heap.size,m,none⟩=false):=Lh hf2;refine wp_region_noPanic ?_;refine wp_region_held_drew (S:=(fun w'=>w'.cell? ⟨b+7,0,none⟩=some (.int .i64 (x:Int))/\w'.cell? ⟨b,0,none⟩=some (.pointer (some ⟨T,0,none⟩)))) qK (HK.out _ ⟨1,rfl⟩) (fun hHeld=>?_);clear hs2 hf2 hc1;refine eG (i:=0) (x:=.slice (some ⟨w.heap.size,0,none⟩) C.length C.length) rfl rfl qK qK qK qI (Or.inl ⟨by rfl,fun w hSw=>by(try dsimp only at hSw);obtain⟨hs7,hs0⟩:=hSw;(go_simp<;>with_reducible rfl)⟩) (by assumption) ?_;simp only[qA,qZ,qC];refine eG (i:=1) (x:=.int .i64 (x:Int)) rfl rfl qK qK qK qI (Or.inl ⟨by rfl,fun w hSw=>by(try dsimp only at hSw);obtain⟨hs7,hs0⟩:=hSw;(go_simp<;>with_reducible rfl)⟩) (by assumption) ?_;simp only[qA,qZ,qC];refine eG (i:=2) (x:=.int .i64 (k:Int)) rfl rfl qK qK qK qI (Or.inl ⟨by rfl,fun w hSw=>by(try dsimp only at hSw);obtain⟨hs7,hs0⟩:=hSw;(go_simp<;>with_reducible rfl)⟩) (by assumption) ?_;simp only[qA,qZ,qC];refine eG (i:=3) (x:=.int .i64 (m:Int)) rfl rfl qK qK qK qI (Or.inl ⟨by rfl,fun w hSw=>by(try dsimp only at hSw);obtain⟨hs7,hs0⟩:=hSw;(go_simp<;>with_reducible rfl)⟩) (by assumption) ?_;simp only[qA,qZ,qC];refine eG (i:=4) (x:=.slice (some ⟨w.heap.size,0,none⟩) C.length C.length) rfl rfl qK qK qK qI (Or.inl ⟨by rfl,fun w hSw=>by(try dsimp only at hSw);obtain⟨hs7,hs0⟩:=hSw;(go_simp<;>with_reducible rfl)⟩) (by assumption) ?_;simp only[qA,qZ,qC];refine eG (i:=5) (x:=.int .i64 (x:Int)) rfl rfl qK qK qK qI (Or.inl ⟨by rfl,fun w hSw=>by(try dsimp only at hSw);obtain⟨hs7,hs0⟩:=hSw;(go_simp<;>with_reducible rfl)⟩) (by assumption) ?_;simp only[qA,qZ,qC];refine eG (i:=6) (x:=.int .i64 (k:Int)) rfl rfl qK qK qK qI (Or.inl ⟨by rfl,fun w hSw=>by(try dsimp only at hSw);obtain⟨hs7,hs0⟩:=hSw;(go_simp<;>with_reducible rfl)⟩) (by assumption) ?_;simp only[qA,qZ,qC];refine eG (i:=7) (x:=.int .i64 (m:Int)) rfl rfl qK qK qK qI (Or.inl ⟨by rfl,fun w hSw=>by(try dsimp only at hSw);obtain⟨hs7,hs0⟩:=hSw;(go_simp<;>with_reducible rfl)⟩) (by assumption) ?_;simp only[qA,qZ,qC];refine eG (i:=8) (x:=.pointer (some ⟨w.heap.size,m,none⟩)) rfl rfl qK qK qK qI (Or.inl ⟨by rfl,fun w hSw=>by(try dsimp only at hSw);obtain⟨hs7,hs0⟩:=hSw;(go_simp<;>with_reducible rfl)⟩) (by assumption) ?_;simp only[qA,qZ,qC];refine eG (i:=10) (x:=.pointer (some ⟨T,0,none⟩)) rfl rfl qK qK qK qI (Or.inl ⟨by rfl,fun w hSw=>by(try dsimp only at hSw);obtain⟨hs7,hs0⟩:=hSw;(go_simp<;>with_reducible rfl)⟩) (by assumption) ?_;simp only[qA,qZ,qC];refine eG (i:=11) (x:=.int .u8 (z.toNat:Int)) rfl rfl qK qK qK qI (Or.inl ⟨by rfl,fun w hSw=>by(try dsimp only at hSw);obtain⟨hs7,hs0⟩:=hSw;(go_simp<;>with_reducible rfl)⟩) (by assumption) ?_;simp only[qA,qZ,qC]
    refine eG (i:=12) (x:=.int .u8 (a.toNat:Int)) rfl rfl qK qK qK qI (Or.inl ⟨by rfl,fun w hSw=>by(try dsimp only at hSw);obtain⟨hs7,hs0⟩:=hSw;(go_simp<;>with_reducible rfl)⟩) (by assumption) ?_;simp only[qA,qZ,qC];refine wpAnyH_all (rs:=[9,13]) qK qS (List.forall_mem_cons.2 ⟨?_,List.forall_mem_cons.2 ⟨?_,fun _ h=>absurd h List.not_mem_nil⟩⟩)
    ·refine zL (x:=.int .u8 (s.toNat:Int)) rfl rfl rfl ?hx1 ⟨hHeld,?_⟩
     case hx1=>
      have hcl:=HCE.out;have hcl2:World.cell? (World.drew wr) ⟨w.heap.size,m,none⟩=some (.int .u8 (s.toNat:Int)):=HCE.out;simp only[execOp];go_simp<;>with_reducible rfl
     simp only[qA,qZ,qC];refine wpAnyH_all (rs:=[13]) qK qS (List.forall_mem_cons.2 ⟨?_,fun _ h=>absurd h List.not_mem_nil⟩);refine kX rfl rfl rfl rfl (enters_of Tryz.func195 qK rfl) (args:=#[.pointer (some ⟨T,0,none⟩),.int .u8 (z.toNat:Int),.int .u8 (a.toNat:Int)]) (by simp[Act.eval]) (R:=fun y v=>y=.int .u8 (u.toNat:Int)/\∃n,v=(World.drew wr).drewN n) ?hc5 (fun y v hR=>?_);case hc5=>exact(MC.out (World.drew wr) (HTW.out.later (Kit.dn' wr 1))).mono (by rintro e w' ⟨rfl,n',rfl⟩;exact⟨_,rfl,rfl,n',rfl⟩)
     obtain⟨rfl,n',rfl⟩:=hR;replace hHeld:=HK.out _ (Kit.Dn.add (⟨1,rfl⟩:Kit.Dn wr (World.drew wr)) n')
     refine⟨hHeld,?_⟩;simp only[qA,qZ,qC];refine wpAnyH_all (rs:=[14]) qK qS (List.forall_mem_cons.2 ⟨?_,fun _ h=>absurd h List.not_mem_nil⟩);refine kX rfl rfl rfl rfl (enters_of Tryz.func184 qK rfl) (args:=#[.int .u8 (s.toNat:Int),.int .u8 (u.toNat:Int)]) (by simp[Act.eval]) (R:=fun y v=>y=.int .u8 (r.toNat:Int)/\v=(World.drew wr).drewN n') ?hc6 (fun y v hR=>?_);case hc6=>exact(AC.out _).mono (by rintro e w' ⟨rfl,rfl⟩;exact⟨_,rfl,rfl,rfl⟩)
     obtain⟨rfl,rfl⟩:=hR;refine⟨hHeld,?_⟩;simp only[qA,qZ,qC];refine eG (i:=15) (x:=.pointer (some ⟨w.heap.size,m,none⟩)) rfl rfl qK qK qK qI (Or.inl ⟨by rfl,fun w hSw=>by(try dsimp only at hSw);obtain⟨hs7,hs0⟩:=hSw;(go_simp<;>with_reducible rfl)⟩) (by assumption) ?_;simp only[qA,qZ,qC];refine wpAnyH_all (rs:=[16]) qK qS (List.forall_mem_cons.2 ⟨?_,fun _ h=>absurd h List.not_mem_nil⟩);have hst:=HK2.out _ (Kit.Dn.add (⟨1,rfl⟩:Kit.Dn wr (World.drew wr)) n');refine tg (v':=((World.drew wr).drewN n').setCell ⟨w.heap.size,m,none⟩ (.int .u8 (r.toNat:Int))) rfl rfl rfl ?hx2 ⟨hst,?_⟩
     case hx2=>
      have hcl:=HCE.out;have hfl:=HFR.out;simp only[execOp];go_simp<;>with_reducible rfl
     refine wpAnyH_done qK ?_ _;refine NoPanic.normal ?_;go_wp2_with fail;go_roundw
     case rel=>exact⟨k+1,qO,by go_num,(HS.out _ ⟨1+n',rfl⟩).1,HO.out.trans ((Only.of_below (Kit.dn' wr (1+n'))).trans (HS.out _ ⟨1+n',rfl⟩).2)⟩
     case measure=>simp[intOf];omega
    ·refine kX rfl rfl rfl rfl (enters_of Tryz.func195 qK rfl) (args:=#[.pointer (some ⟨T,0,none⟩),.int .u8 (z.toNat:Int),.int .u8 (a.toNat:Int)]) (by simp[Act.eval]) (R:=fun y v=>y=.int .u8 (u.toNat:Int)/\∃n,v=(World.drew wr).drewN n) ?hc7 (fun y v hR=>?_);case hc7=>exact(MC.out (World.drew wr) (HTW.out.later (Kit.dn' wr 1))).mono (by rintro e w' ⟨rfl,n',rfl⟩;exact⟨_,rfl,rfl,n',rfl⟩)
     obtain⟨rfl,n',rfl⟩:=hR;replace hHeld:=HK.out _ (Kit.Dn.add (⟨1,rfl⟩:Kit.Dn wr (World.drew wr)) n')
     refine⟨hHeld,?_⟩;simp only[qA,qZ,qC];refine wpAnyH_all (rs:=[9]) qK qS (List.forall_mem_cons.2 ⟨?_,fun _ h=>absurd h List.not_mem_nil⟩);refine zL (x:=.int .u8 (s.toNat:Int)) rfl rfl rfl ?hx3 ⟨hHeld,?_⟩
     case hx3=>
      have hcl:=HCE.out;have hcl2:World.cell? ((World.drew wr).drewN n') ⟨w.heap.size,m,none⟩=some (.int .u8 (s.toNat:Int)):=HCE.out;simp only[execOp];go_simp<;>with_reducible rfl
     simp only[qA,qZ,qC];refine wpAnyH_all (rs:=[14]) qK qS (List.forall_mem_cons.2 ⟨?_,fun _ h=>absurd h List.not_mem_nil⟩);refine kX rfl rfl rfl rfl (enters_of Tryz.func184 qK rfl) (args:=#[.int .u8 (s.toNat:Int),.int .u8 (u.toNat:Int)]) (by simp[Act.eval]) (R:=fun y v=>y=.int .u8 (r.toNat:Int)/\v=(World.drew wr).drewN n') ?hc8 (fun y v hR=>?_);case hc8=>exact(AC.out _).mono (by rintro e w' ⟨rfl,rfl⟩;exact⟨_,rfl,rfl,rfl⟩)
     obtain⟨rfl,rfl⟩:=hR;refine⟨hHeld,?_⟩;simp only[qA,qZ,qC];refine eG (i:=15) (x:=.pointer (some ⟨w.heap.size,m,none⟩)) rfl rfl qK qK qK qI (Or.inl ⟨by rfl,fun w hSw=>by(try dsimp only at hSw);obtain⟨hs7,hs0⟩:=hSw;(go_simp<;>with_reducible rfl)⟩) (by assumption) ?_;simp only[qA,qZ,qC];refine wpAnyH_all (rs:=[16]) qK qS (List.forall_mem_cons.2 ⟨?_,fun _ h=>absurd h List.not_mem_nil⟩);have hst:=HK2.out _ (Kit.Dn.add (⟨1,rfl⟩:Kit.Dn wr (World.drew wr)) n');refine tg (v':=((World.drew wr).drewN n').setCell ⟨w.heap.size,m,none⟩ (.int .u8 (r.toNat:Int))) rfl rfl rfl ?hx4 ⟨hst,?_⟩
     case hx4=>
      have hcl:=HCE.out;have hfl:=HFR.out;simp only[execOp];go_simp<;>with_reducible rfl
     refine wpAnyH_done qK ?_ _;refine NoPanic.normal ?_;go_wp2_with fail;go_roundw
     case rel=>exact⟨k+1,qO,by go_num,(HS.out _ ⟨1+n',rfl⟩).1,HO.out.trans ((Only.of_below (Kit.dn' wr (1+n'))).trans (HS.out _ ⟨1+n',rfl⟩).2)⟩
     case measure=>simp[intOf];omega
   ·obtain rfl:k=B.length:=qO;have hall:B.take B.length=B:=List.take_length;rw[hall,HMM.out]at hb;have hml:=hb.le;have HR:Hid (RowIs wr (some ⟨w.heap.size,0,none⟩) (bytesV (Gf.gX C B a x)) C.length):=Lh hb.row;have HL:Hid (C.length=(Gf.gX C B a x).length):=Lh (by rw[Gf.j1];exact HN.out);have HBW:Hid (Below w.heap.size w wr):=Lh (HB2.out.trans (ho.below qN HB2.out.size));clear hall hb ho;go_wp2_with fail;go_ret;exact⟨w.heap.size,C.length,by rw[<-HL.out];rfl,Nat.le_refl _,HBW.out,HR.out⟩
def FM(b k:Nat):Prop:=k=b+2∨k=b+3∨k=b+5∨k=b+6∨k=b+7
structure RgB(b T:Nat)(Ct:Array Value)(vn vl vo vw va:Value)(w:World):Prop where
 tb:T<b
 tab:TabAt w T Ct
 qt:Boxed w b 263 (.pointer (some ⟨T,0,none⟩))
 qn:Boxed w (b+2) 22 vn
 ql:Boxed w (b+3) 3 vl
 qo:Boxed w (b+5) 22 vo
 qw:Boxed w (b+6) 5 vw
 qa:Boxed w (b+7) 3 va
 qf:Boxed w (b+8) 300 (.func (.func 222) #[] #[.pointer (some ⟨b+2,0,none⟩),.pointer (some ⟨b,0,none⟩)])
 qm:Boxed w (b+9) 231 (.func (.func 223) #[] #[.pointer (some ⟨b+2,0,none⟩),.pointer (some ⟨b+7,0,none⟩),.pointer (some ⟨b+5,0,none⟩),.pointer (some ⟨b,0,none⟩)])
section
variable {b T:Nat} {Ct:Array Value} {vn vl vo vw va:Value} {w w':World}
theorem RgB.later(h:RgB b T Ct vn vl vo vw va w)(hb:Below w.heap.size w w'):RgB b T Ct vn vl vo vw va w':=
 ⟨h.tb,h.tab.later hb,aC h.qt hb,aC h.qn hb,aC h.ql hb,aC h.qo hb,aC h.qw hb,aC h.qa hb,aC h.qf hb,aC h.qm hb⟩
theorem lZ{k:Nat}{u:Value}(h:TabAt w T Ct)(hne:T≠k):TabAt (w.setCell ⟨k,0,none⟩ u) T Ct:=Only.tab (grownBy_setCell' w k u) h hne
theorem RgB.now(h:RgB b T Ct vn vl vo vw va w)(u:Value):RgB b T Ct u vl vo vw va (w.setCell ⟨b+2,0,none⟩ u):=
 ⟨h.tb,lZ h.tab (by have:=h.tb;omega),h.qt.other qO _,h.qn.set _,h.ql.other qO _,h.qo.other qO _,h.qw.other qO _,h.qa.other qO _,h.qf.other qO _,h.qm.other qO _⟩
theorem RgB.long(h:RgB b T Ct vn vl vo vw va w)(u:Value):RgB b T Ct vn u vo vw va (w.setCell ⟨b+3,0,none⟩ u):=
 ⟨h.tb,lZ h.tab (by have:=h.tb;omega),h.qt.other qO _,h.qn.other qO _,h.ql.set _,h.qo.other qO _,h.qw.other qO _,h.qa.other qO _,h.qf.other qO _,h.qm.other qO _⟩
theorem RgB.old(h:RgB b T Ct vn vl vo vw va w)(u:Value):RgB b T Ct vn vl u vw va (w.setCell ⟨b+5,0,none⟩ u):=
 ⟨h.tb,lZ h.tab (by have:=h.tb;omega),h.qt.other qO _,h.qn.other qO _,h.ql.other qO _,h.qo.set _,h.qw.other qO _,h.qa.other qO _,h.qf.other qO _,h.qm.other qO _⟩
theorem RgB.wrong(h:RgB b T Ct vn vl vo vw va w)(u:Value):RgB b T Ct vn vl vo u va (w.setCell ⟨b+6,0,none⟩ u):=
 ⟨h.tb,lZ h.tab (by have:=h.tb;omega),h.qt.other qO _,h.qn.other qO _,h.ql.other qO _,h.qo.other qO _,h.qw.set _,h.qa.other qO _,h.qf.other qO _,h.qm.other qO _⟩
theorem RgB.ago(h:RgB b T Ct vn vl vo vw va w)(u:Value):RgB b T Ct vn vl vo vw u (w.setCell ⟨b+7,0,none⟩ u):=
 ⟨h.tb,lZ h.tab (by have:=h.tb;omega),h.qt.other qO _,h.qn.other qO _,h.ql.other qO _,h.qo.other qO _,h.qw.other qO _,h.qa.set _,h.qf.other qO _,h.qm.other qO _⟩
theorem qJ{k B:Nat}{u:Value}(h:FM b k):Bts (FM b) B w (w.setCell ⟨k,0,none⟩ u):=Bts.of_only (grownBy_setCell' w k u) h
theorem vj{w':World}(h:Below w.heap.size w w'):Bts (FM b) w.heap.size w w':=
 ⟨h.os,h.tape,h.output,h.size,fun i o _ hi _=>(h.block i (aE.1 hi).1).trans hi⟩
end
theorem nm{M:Nat->Prop}{A B:Nat}{a b:World}(h:Bts M B a b)(hA:A<=B):Bts M A a b:=⟨h.os,h.tape,h.output,h.size,fun k o hk ho hc=>h.same k o hk ho (hc.imp id (fun h=>qO))⟩
structure RgM(b T:Nat)(Ct:Array Value)(C:BL)(L:Nat)(B:BL)(bw:UInt8)(x:Nat)(oC:Option Addr)(cC:Nat)(oB:Option Addr)(cB:Nat)(w:World):Prop where
 box:RgB b T Ct (.slice oC C.length cC) (.int .i64 (L:Int)) (.slice oB B.length cB) (.int .u8 (bw.toNat:Int)) (.int .i64 (x:Int)) w
 rC:RowIs w oC (bytesV C) cC
 rB:RowIs w oB (bytesV B) cB
 fC:0<(bytesV C).length->∀p,oC=some p->¬FM b p.block
 fB:0<(bytesV B).length->∀p,oB=some p->¬FM b p.block
def VU(b T:Nat)(Ct:Array Value)(s:BL)(n:Nat)(w:World)(e:Ending)(w':World):Prop:=
 (∃v,e=.returned v)/\∃C L B bw x oC cC oB cB,RgM b T Ct C L B bw x oC cC oB cB w'/\Gf.Reg (co s) (n+1) C L B bw x/\Bts (FM b) w.heap.size w w'
theorem RY(s C r:BL)(L n:Nat)(hC:C.length<=L+1)(hL:L<=n)(hr:r=s.take (n+1))(hl:r.length=n+1):EN C r C.length=Gf.dis (co s) (co C) L n:=by
 rw[<-Gf.RV (co s) C L n hC];unfold EN;refine Gf.aW fun j hj=>?_
 rw[hl,Nat.add_sub_cancel,hr,jU,if_pos qO]
theorem N6(b T:Nat)(Ct:Array Value)(s:BL)(n:Nat)(C:BL)(L:Nat)(B:BL)(bw:UInt8)(x:Nat)(oC:Option Addr)(cC:Nat)(oB:Option Addr)(cB:Nat)(oR:Option Addr)(cR:Nat)(w:World)
  (hM:RgM b T Ct C L B bw x oC cC oB cB w) (hg:Gf.Reg (co s) n C L B bw x) (hn:n<s.length) (hl:s.length<=900) (hR:RowIs w oR (bytesV (s.take (n+1))) cR) (hRf:∀p,oR=some p->¬FM b p.block):
  Calls Tryz.prog 224 #[.slice oR (s.take (n+1)).length cR,.pointer (some ⟨b+7,0,none⟩),.pointer (some ⟨b+8,0,none⟩),.pointer (some ⟨b+9,0,none⟩),.pointer (some ⟨b,0,none⟩),.pointer (some ⟨b+6,0,none⟩),.pointer (some ⟨b+3,0,none⟩),.pointer (some ⟨b+2,0,none⟩),.pointer (some ⟨b+5,0,none⟩)] w (VU b T Ct s n w):=by
 obtain⟨r,hr⟩:∃r,r=s.take (n+1):=⟨_,rfl⟩;have hrl:r.length=n+1:=by rw[hr];simp;omega
 rw[<-hr]at hR⊢;have hLn:=hg.le;have hCl:=hg.len;have hxn:=hg.xle;have hbl:=hg.blen;have hcp:=hg.pos;have HOFF:=Lh (RY s C r L n hCl hLn hr hrl);obtain⟨w1,hw1⟩:=qM (w.setCell ⟨b+7,0,none⟩ (.int .i64 ((x:Int)+1)));have hbt:Bts (FM b) w.heap.size w w1:=by rw[<-hw1];exact qJ (by unfold FM;omega)
 have hbx:RgB b T Ct (.slice oC C.length cC) (.int .i64 (L:Int)) (.slice oB B.length cB) (.int .u8 (bw.toNat:Int)) (.int .i64 ((x+1:Nat):Int)) w1:=by rw[<-hw1];exact hM.box.ago _
 have hM1:RgM b T Ct C L B bw (x+1) oC cC oB cB w1:=⟨hbx,hbt.row hM.rC hM.fC,hbt.row hM.rB hM.fB,hM.fC,hM.fB⟩;have hR1:RowIs w1 oR (bytesV r) cR:=hbt.row hR fun _=>hRf
 have hc7:=hM.box.qa.cell;have hf7:=hM.box.qa.frozen;have hc8:=hM1.box.qf.cell;have hwx:IntKind.i64.wrap ((x:Int)+1)=(x:Int)+1:=by rw[IntKind.wrap_i64];omega
 have hRc:=hR1.le;have hRc2:=hR1.cap;simp only[bytesV_length]at hRc;unfold maxLen at hRc2;have HW1:=Lh hw1;have HBT:=Lh hbt;have HM1:=Lh hM1;have HR1:=Lh hR1;have HG:=Lh hg;have HRL:=Lh hrl;have HOF:=Lh (RX b T Ct C r oC oR cC cR w1 hM1.box.tab hM1.box.qt hM1.box.qn hM1.rC hR1 qO);rw[HOFF.out]at HOF;obtain⟨d,hd⟩:=qM (Gf.dis (co s) (co C) L n);rw[hd]at HOF;have HD:=Lh hd;have hdl:=UInt8.toNat_lt d;clear hM hg hR hr hbt hbx hM1 hR1 hw1 hd HOFF hrl;go_enter Tryz.func224,Tryz.ntmps224
 go_wp2_with (first|rw[HW1.out]|fail)
 refine HOF.out.mono ?_;rintro e w2 ⟨rfl,hdn⟩;have HM2:Hid (RgM b T Ct C L B bw (x+1) oC cC oB cB w2):=Lh ⟨HM1.out.box.later hdn.below,HM1.out.rC.later hdn.below,HM1.out.rB.later hdn.below,HM1.out.fC,HM1.out.fB⟩;have HBT2:Hid (Bts (FM b) w.heap.size w w2):=Lh (HBT.out.trans (nm (vj hdn.below) HBT.out.size));clear HOF hc7 hf7 hc8 hdn HW1 HM1 HBT HR1;by_cases hd0:d=0
 ·have hde:((d.toNat:Int)==0)=true:=by rw[hd0];rfl
  have HD0:=Lh hd0;clear hd0;go_wp2_with fail;refine bodyPost_ret (results_none rfl _ _ _) rfl ?_;exact⟨⟨_,rfl⟩,C,L,B,bw,x+1,oC,cC,oB,cB,HM2.out,HG.out.same (HD.out.trans HD0.out),HBT2.out⟩
 ·have hde:((d.toNat:Int)==0)=false:=beq_false_of_ne (fun h=>hd0 (UInt8.toNat_inj.1 (by simpa using h)));have HD0:=Lh hd0;have hbne:=HG.out.bne;have hbl8:=UInt8.toNat_lt bw;have DC:Hid (∀v:World,TabAt v T Ct->Calls Tryz.prog 215 #[.pointer (some ⟨T,0,none⟩),.int .u8 (d.toNat:Int),.int .u8 (bw.toNat:Int)] v fun e w'=>e=.returned (.int .u8 ((Gf.gd d bw).toNat:Int))/\∃n,w'=v.drewN n):=Lh fun v hv=>by
   rw[Gf.yn];exact A2 _ _ hdl (fun h=>hbne (UInt8.toNat_inj.1 h)) hbl8 T Ct v hv
  have MEC:Hid (∀v:World,Below w2.heap.size w2 v->Calls Tryz.prog 223 #[.int .u8 ((Gf.gd d bw).toNat:Int),.pointer (some ⟨b+2,0,none⟩),.pointer (some ⟨b+7,0,none⟩),.pointer (some ⟨b+5,0,none⟩),.pointer (some ⟨b,0,none⟩)] v fun e w'=>
    ∃g cap,e=.returned (.slice (some ⟨g,0,none⟩) (Gf.gX C B (Gf.gd d bw) (x+1)).length cap)/\v.heap.size<=g/\Below v.heap.size v w'/\RowIs w' (some ⟨g,0,none⟩) (bytesV (Gf.gX C B (Gf.gd d bw) (x+1))) cap):=Lh fun v hv=>by
   have hx:=HM2.out.box.later hv;exact EO b T Ct C B (Gf.gd d bw) (x+1) oC oB cC cB v hx.tab hx.qt hx.qn hx.qa hx.qo (HM2.out.rC.later hv) (HM2.out.rB.later hv) qO qO qO
  have HST:Hid (¬2*L<n+1->Gf.Reg (co s) (n+1) (Gf.gX C B (Gf.gd d bw) (x+1)) L B bw (x+1)):=Lh fun h=>by
   have:=HG.out.still (by rw[HD.out];exact HD0.out) h;rwa[HD.out]at this
  have HLO:Hid (2*L<n+1->Gf.Reg (co s) (n+1) (Gf.gX C B (Gf.gd d bw) (x+1)) (n+1-L) C d 0):=Lh fun h=>by
   have:=HG.out.longer (by rw[HD.out];exact HD0.out) h;rwa[HD.out]at this
  generalize Gf.gX C B (Gf.gd d bw) (x+1)=N at*;generalize Gf.gd d bw=a at*;have hal:=UInt8.toNat_lt a;have hc9:=HM2.out.box.qm.cell;have hc0:=HM2.out.box.qt.cell;have hc6:=HM2.out.box.qw.cell;have HK:Hid (∀v,Below w2.heap.size w2 v->v.cell? ⟨b+9,0,none⟩=some (.func (.func 223) #[] #[.pointer (some ⟨b+2,0,none⟩),.pointer (some ⟨b+7,0,none⟩),.pointer (some ⟨b+5,0,none⟩),.pointer (some ⟨b,0,none⟩)])/\v.cell? ⟨b,0,none⟩=some (.pointer (some ⟨T,0,none⟩))/\v.cell? ⟨b+6,0,none⟩=some (.int .u8 (bw.toNat:Int))):=Lh fun v hv=>⟨(HM2.out.box.later hv).qm.cell,(HM2.out.box.later hv).qt.cell,(HM2.out.box.later hv).qw.cell⟩
  clear hd0 hbne;go_wp2_with fail;go_region_held3 (fun v=>v.cell? ⟨b+9,0,none⟩=some (.func (.func 223) #[] #[.pointer (some ⟨b+2,0,none⟩),.pointer (some ⟨b+7,0,none⟩),.pointer (some ⟨b+5,0,none⟩),.pointer (some ⟨b,0,none⟩)])/\v.cell? ⟨b,0,none⟩=some (.pointer (some ⟨T,0,none⟩))/\v.cell? ⟨b+6,0,none⟩=some (.int .u8 (bw.toNat:Int))) (first|exact HK.out _ (Kit.dn' w2 0)|exact HK.out _ (Kit.dn' w2 1)|exact HK.out _ (Kit.dn' w2 _)|exact HK.out _ (Ks (Kit.dn' w2 _) (by assumption))) (first|(go_at_call 215;refine(DC.out _ (HM2.out.box.later (Kit.dn' w2 1)).tab).mono ?_;rintro e w' ⟨rfl,n',rfl⟩)|(go_at_call 223;refine(MEC.out _ (Kit.dn' w2 _)).mono ?_;rintro e w3 ⟨g,cap,rfl,hge,hbe,hre⟩))
  have hb23:=Ks (Kit.dn' w2 _) hbe;have hgw:w2.heap.size<=g:=by simpa using hge
  have HM3:Hid (RgM b T Ct C L B bw (x+1) oC cC oB cB w3):=Lh ⟨HM2.out.box.later hb23,HM2.out.rC.later hb23,HM2.out.rB.later hb23,HM2.out.fC,HM2.out.fB⟩;have HBT3:Hid (Bts (FM b) w.heap.size w w3):=Lh (HBT2.out.trans (nm (vj hb23) HBT2.out.size));have HRE:=Lh hre;have hgb:b+9<g:=by have:=HM2.out.box.qm.lt;omega
  have hc3:=HM3.out.box.ql.cell;have h2L:IntKind.i64.wrap (2*(L:Int))=2*(L:Int):=by rw[IntKind.wrap_i64];omega
  have hfg:¬FM b g:=by unfold FM;omega
  clear hc9 hc0 hc6 hge hbe hre hb23 DC MEC HK;by_cases h2:2*L<n+1
  ·have hdd:decide (2*(L:Int)<(r.length:Int))=true:=decide_eq_true (by have:=HRL.out;omega);have HLO2:=Lh (HLO.out h2);have hsub:IntKind.i64.wrap ((r.length:Int)-(L:Int))=((n+1-L:Nat):Int):=by rw[IntKind.wrap_i64];have:=HRL.out;omega
   have hc2:=HM3.out.box.qn.cell;have hc5:=HM3.out.box.qo.cell;have hf5:=HM3.out.box.qo.frozen;have hc6:=HM3.out.box.qw.cell;have hf6:=HM3.out.box.qw.frozen;have hc7:=HM3.out.box.qa.cell;have hf7:=HM3.out.box.qa.frozen;have hf3:=HM3.out.box.ql.frozen;have hf2:=HM3.out.box.qn.frozen;clear h2;go_wp2_with fail;go_region
   obtain⟨w4,hw4⟩:=qM (((((w3.setCell ⟨b+5,0,none⟩ (.slice oC C.length cC)).setCell ⟨b+6,0,none⟩ (.int .u8 (d.toNat:Int))).setCell ⟨b+7,0,none⟩ (.int .i64 0)).setCell ⟨b+3,0,none⟩ (.int .i64 ((n+1-L:Nat):Int))).drew);rw[hw4];have hbt4:Bts (FM b) w3.heap.size w3 w4:=by
    rw[<-hw4];exact(qJ (by unfold FM;omega)).trans ((qJ (by unfold FM;omega)).trans ((qJ (by unfold FM;omega)).trans ((qJ (by unfold FM;omega)).trans (nm (vj (Kit.dn' _ 1)) qS))))
   have hbx4:RgB b T Ct (.slice oC C.length cC) (.int .i64 ((n+1-L:Nat):Int)) (.slice oC C.length cC) (.int .u8 (d.toNat:Int)) (.int .i64 ((0:Nat):Int)) w4:=by
    rw[<-hw4];exact((((HM3.out.box.old _).wrong _).ago _).long _).later (Kit.dn' _ 1)
   obtain⟨w5,hw5⟩:=qM (w4.setCell ⟨b+2,0,none⟩ (.slice (some ⟨g,0,none⟩) N.length cap));have hbt5:Bts (FM b) w3.heap.size w3 w5:=hbt4.trans (by rw[<-hw5];exact qJ (by unfold FM;omega));have HM5:Hid (RgM b T Ct N (n+1-L) C d 0 (some ⟨g,0,none⟩) cap oC cC w5):=Lh ⟨by rw[<-hw5];exact hbx4.now _,hbt5.row HRE.out (fun _ p hp=>by cases hp;exact hfg),hbt5.row HM3.out.rC HM3.out.fC,(fun _ p hp=>by cases hp;exact hfg),HM3.out.fC⟩;have HBT5:Hid (Bts (FM b) w.heap.size w w5):=Lh (HBT3.out.trans (nm hbt5 HBT3.out.size));have HW5:=Lh hw5;clear hc2 hc3 hc5 hf5 hc6 hf6 hc7 hf7 hf3 hf2;have hc2:=hbx4.qn.cell;have hf2:=hbx4.qn.frozen;clear hw4 hbt4 hbx4 hw5 hbt5;go_wp2_with (first|rw[HW5.out]|fail)
   go_end0
   exact⟨⟨_,rfl⟩,N,n+1-L,C,d,0,_,cap,oC,cC,HM5.out,HLO2.out,HBT5.out⟩
  ·have hdd:decide (2*(L:Int)<(r.length:Int))=false:=decide_eq_false (by have:=HRL.out;omega);have HST2:=Lh (HST.out h2);obtain⟨w4,hw4⟩:=qM (w3.setCell ⟨b+2,0,none⟩ (.slice (some ⟨g,0,none⟩) N.length cap));have hbt4:Bts (FM b) w3.heap.size w3 w4:=by rw[<-hw4];exact qJ (by unfold FM;omega)
   have HM4:Hid (RgM b T Ct N L B bw (x+1) (some ⟨g,0,none⟩) cap oB cB w4):=Lh ⟨by rw[<-hw4];exact HM3.out.box.now _,hbt4.row HRE.out (fun _ p hp=>by cases hp;exact hfg),hbt4.row HM3.out.rB HM3.out.fB,(fun _ p hp=>by cases hp;exact hfg),HM3.out.fB⟩;have HBT4:Hid (Bts (FM b) w.heap.size w w4):=Lh (HBT3.out.trans (nm hbt4 HBT3.out.size));have hc2:=HM3.out.box.qn.cell;have hf2:=HM3.out.box.qn.frozen;have HW4:=Lh hw4;clear h2 hw4 hbt4;go_wp2_with (first|rw[HW4.out]|fail)
   go_end0
   exact⟨⟨_,rfl⟩,N,L,B,bw,x+1,_,cap,oB,cB,HM4.out,HST2.out,HBT4.out⟩
theorem N7(b L:Nat)(C:BL)(oC:Option Addr)(cC:Nat)(w:World)(hn:Boxed w (b+2) 22 (.slice oC C.length cC))(hl:Boxed w (b+3) 3 (.int .i64 (L:Int)))(hC:RowIs w oC (bytesV C) cC)(hCl:C.length<=10000):
  Calls Tryz.prog 225 #[.pointer (some ⟨b+2,0,none⟩),.pointer (some ⟨b+3,0,none⟩)] w fun e w'=>∃x,e=.returned (.tuple #[x,.int .i64 (L:Int)])/\RowV (tr C) x w'/\Below w.heap.size w w':=by
 have hc2:=hn.cell;have hc3:=hl.cell;have HK:Hid (∀v,Below w.heap.size w v->v.cell? ⟨b+2,0,none⟩=some (.slice oC C.length cC)/\v.cell? ⟨b+3,0,none⟩=some (.int .i64 (L:Int))):=Lh fun v hv=>⟨(aC hn hv).cell,(aC hl hv).cell⟩
 have TC:Hid (∀v,Below w.heap.size w v->Calls Tryz.prog 205 #[.slice oC C.length cC] v (Rows (tr C) v)):=Lh fun v hv=>qp C oC cC v (hC.later hv) qO
 clear hn hl hC;go_enter Tryz.func225,Tryz.ntmps225
 go_wp2_with fail;go_region_held3 (fun v=>v.cell? ⟨b+2,0,none⟩=some (.slice oC C.length cC)/\v.cell? ⟨b+3,0,none⟩=some (.int .i64 (L:Int))) (first|exact HK.out _ (Kit.dn' w 0)|exact HK.out _ (Kit.dn' w 1)|exact HK.out _ (Ks (Kit.dn' w 1) (by assumption))) (first|(go_at_call 205;refine(TC.out _ (Kit.dn' w 1)).mono ?_;rintro e w3 ⟨x,rfl,hx,hbe⟩;obtain⟨o3,c3,rfl,hx⟩:=hx))
 go_wp2_with fail;go_ret2
 exact⟨_,rfl,⟨o3,c3,rfl,hx⟩,Ks (Kit.dn' w 1) hbe⟩
theorem bA{W X:World}(h:Below W.heap.size W X)(o:Obj):Below W.heap.size W (X.alloc o):=h.alloc h.size o
theorem wm(w:World):Calls Tryz.prog 202 #[] w fun e w'=>∃b T Ct,e=.returned (.tuple #[.func (.func 224) #[] #[.pointer (some ⟨b+7,0,none⟩),.pointer (some ⟨b+8,0,none⟩),.pointer (some ⟨b+9,0,none⟩),.pointer (some ⟨b,0,none⟩),.pointer (some ⟨b+6,0,none⟩),.pointer (some ⟨b+3,0,none⟩),.pointer (some ⟨b+2,0,none⟩),.pointer (some ⟨b+5,0,none⟩)],
   .func (.func 225) #[] #[.pointer (some ⟨b+2,0,none⟩),.pointer (some ⟨b+3,0,none⟩)]])/\w.heap.size<=b/\RgM b T Ct [1] 0 [1] 1 0 (some ⟨b+1,0,none⟩) 1 (some ⟨b+4,0,none⟩) 1 w'/\Below w.heap.size w w':=by
 go_enter Tryz.func202,Tryz.ntmps202
 go_wp2_with fail;refine(jE _).mono ?_;rintro e w1 ⟨n,C,hC,rfl,hw1⟩;have hT1:TabAt w1 w.heap.size C:=by rw[hw1];exact TabAt.made hC
 have hb1:Below w.heap.size w w1:=by rw[hw1];exact fL
 have hs1:w1.heap.size=w.heap.size+1:=by rw[hw1];simp
 have HT1:=Lh hT1;have HB1:=Lh hb1;have HS1:=Lh hs1;clear hC hT1 hb1 hw1 hs1;go_wp2_with fail;have hb:∀(W:World)(k:Nat)(h:W.heap.size=k)(t:TypeId)(v:Value),Boxed (W.alloc (.cells #[v] t)) k t v:=fun W k h t v=>h▸Boxed.new W t v
 have hrow:∀(W:World)(k:Nat),Boxed W k 5 (.int .u8 1)->RowIs W (some ⟨k,0,none⟩) (bytesV [1]) 1:=fun W k h=>bp (z:=[1]) h (by unfold maxLen;simp)
 have hs:=HS1.out;go_ret2
 refine⟨w1.heap.size,w.heap.size,C,rfl,qO,⟨⟨qO,?_,((((((((((hb _ _ qS _ _).alloc _).alloc _).alloc _).alloc _).alloc _).alloc _).alloc _).alloc _).alloc _),((((((((hb _ _ qS _ _).alloc _).alloc _).alloc _).alloc _).alloc _).alloc _).alloc _),(((((((hb _ _ qS _ _).alloc _).alloc _).alloc _).alloc _).alloc _).alloc _),(((((hb _ _ qS _ _).alloc _).alloc _).alloc _).alloc _),((((hb _ _ qS _ _).alloc _).alloc _).alloc _),(((hb _ _ qS _ _).alloc _).alloc _),((hb _ _ qS _ _).alloc _),(hb _ _ qS _ _)⟩,hrow _ _ (((((((((hb _ _ qS _ _).alloc _).alloc _).alloc _).alloc _).alloc _).alloc _).alloc _).alloc _),hrow _ _ ((((((hb _ _ qS _ _).alloc _).alloc _).alloc _).alloc _).alloc _),(fun _ p hp=>by cases hp;unfold FM;dsimp only;omega),(fun _ p hp=>by cases hp;unfold FM;dsimp only;omega)⟩,?_⟩
 ·exact HT1.out.later (bA (bA (bA (bA (bA (bA (bA (bA (bA (bA (Below.refl w1.heap.size w1) _) _) _) _) _) _) _) _) _) _)
 ·exact Ks HB1.out (bA (bA (bA (bA (bA (bA (bA (bA (bA (bA (Below.refl w1.heap.size w1) _) _) _) _) _) _) _) _) _) _)
def aAL(s:BL)(b T:Nat)(Ct:Array Value)(w:World)(iv:Value)(wr:World):Prop:=
 ∃k:Nat,k<=s.length/\iv=.int .i64 k/\(∃C L B bw x oC cC oB cB,RgM b T Ct C L B bw x oC cC oB cB wr/\Gf.Reg (co s) k C L B bw x)/\Below w.heap.size w wr
def YI(s:BL)(w:World)(e:Ending)(w':World):Prop:=
 ∃C L x,e=.returned (.tuple #[x,.int .i64 ((L:Nat):Int)])/\RowV (tr C) x w'/\Below w.heap.size w w'/\Gf.Run (co s) s.length (co C) L/\Gf.Least (co s) s.length L/\L<=s.length/\C.length<=L+1
theorem N8(s:BL)(o:Option Addr)(c:Nat)(w:World)(hS:RowIs w o (bytesV s) c)(hl:s.length<=900):
  Calls Tryz.prog 177 #[.slice o s.length c] w (YI s w):=by
 have h1:=hS.le;have h2:=hS.cap;simp only[bytesV_length]at h1;unfold maxLen at h2;have HS:=Lh hS;clear hS;go_enter Tryz.func177,Tryz.ntmps177
 go_wp2_with fail;refine(wm _).mono ?_;rintro e w1 ⟨b,T,Ct,rfl,hb,hm,hb1⟩;have HM:=Lh hm;have HB:=Lh hb;have HB1:=Lh hb1;clear hm hb hb1;go_wp2_with fail;go_loopw [6,13] (fun _ i wr=>aAL s b T Ct w i wr) (fun _ i _=>s.length-(intOf i).toNat)
 case atStart=>exact⟨0,Nat.zero_le _,rfl,⟨[1],0,[1],1,0,_,_,_,_,HM.out,Gf.Reg.first _⟩,HB1.out⟩
 case round=>
  obtain⟨k,hk,rfl,⟨C,L,B,bw,x,oC,cC,oB,cB,hm,hg⟩,hb⟩:=hrel;by_cases hlt:k<s.length
  ·have hlen:(s.take (k+1)).length=k+1:=by simp;omega
   have hR:RowIs wr o (bytesV (s.take (k+1))) c:=(HS.out.later hb).take (k+1);have hRf:∀p,o=some p->¬FM b p.block:=fun p hp=>by
    obtain⟨b1,off1,h1,h2,_⟩:=HS.out.cells (by simp;omega);rw[h1]at hp;cases hp
    have:=HB.out;unfold FM;dsimp only;omega
   have hf:=N6 b T Ct s k C L B bw x oC cC oB cB o c wr hm hg hlt hl hR hRf;rw[hlen]at hf;obtain⟨j,hj⟩:=qM (k+1);rw[hj]at hf;have hw1:IntKind.i64.wrap ((k:Int)+1)=(j:Int):=by rw[IntKind.wrap_i64];omega
   have hj0:(0:Int)<=(j:Int):=qO;have hjc:(j:Int)<=(c:Int):=qO;have hki:(k:Int)<(s.length:Int):=qO;have HF:=Lh hf;have HBW:=Lh hb;have HJ:=Lh hj;clear hf hb hm hg hR hRf hlen hj;go_wp2_with fail;refine HF.out.mono ?_;rintro e w2 ⟨⟨v,rfl⟩,C2,L2,B2,bw2,x2,oC2,cC2,oB2,cB2,hm2,hg2,hbt⟩;have hb2:Below w.heap.size w w2:=HBW.out.trans (hbt.below (fun k hk=>by have:=HB.out;unfold FM at hk;omega) HBW.out.size HBW.out.size);have HM2:=Lh hm2;have HG2:=Lh hg2;have HB2:=Lh hb2;clear hm2 hg2 hbt hb2 HF;go_wp2_with fail;go_roundw
   case rel=>exact⟨k+1,qO,by have:=HJ.out;go_num,⟨C2,L2,B2,bw2,x2,oC2,cC2,oB2,cB2,HM2.out,HG2.out⟩,HB2.out⟩
   case measure=>have:=HJ.out;simp[intOf];omega
  ·obtain rfl:k=s.length:=qO;have hcl:=hg.len;have hle:=hg.le;have HT:=Lh (N7 b L C oC cC wr hm.box.qn hm.box.ql hm.rC qO);have HG:=Lh hg;have HBW:=Lh hb;clear hm hg hb;go_wp2_with fail;refine HT.out.mono ?_;rintro e w2 ⟨y,rfl,hy,hb⟩;have HY:=Lh hy;have HB2:=Lh (Ks HBW.out hb);clear hb hy;go_wp2_with fail;go_ret2
   exact⟨C,L,y,rfl,HY.out,HB2.out,HG.out.run,HG.out.least,hle,hcl⟩
theorem EP(p n:Int)(Q:Nat)(w:World)(hq:Boxed w Q 3 (.int .i64 n)):
  Calls Tryz.prog 197 #[.int .i64 p,.pointer (some ⟨Q,0,none⟩)] w fun e w'=>e=.returned (.bool (decide (p<0∨n<=p)))/\w'=w:=by
 have hc:=hq.cell;clear hq;by_cases h0:p<0
 ·have hd0:decide (p<0)=true:=decide_eq_true h0;have HD:Hid (decide (p<0∨n<=p)=true):=Lh (decide_eq_true (.inl h0));clear h0;go_enter Tryz.func197,Tryz.ntmps197
  go_wp2_with fail;go_ret;exact⟨by rw[HD.out];rfl,rfl⟩
 ·have hd0:decide (p<0)=false:=decide_eq_false h0;by_cases h1:n<=p
  ·have hd1:decide (n<=p)=true:=decide_eq_true h1;have HD:Hid (decide (p<0∨n<=p)=true):=Lh (decide_eq_true (.inr h1));clear h0 h1;go_enter Tryz.func197,Tryz.ntmps197
   go_wp2_with fail;go_ret;exact⟨by rw[HD.out];rfl,rfl⟩
  ·have hd1:decide (n<=p)=false:=decide_eq_false h1;have HD:Hid (decide (p<0∨n<=p)=false):=Lh (decide_eq_false fun h=>h.elim h0 h1);clear h0 h1;go_enter Tryz.func197,Tryz.ntmps197
   go_wp2_with fail;go_ret;exact⟨by rw[HD.out];rfl,rfl⟩
def aAM(n:Int)(z:List Int)(w:World)(i:Value)(wr:World):Prop:=∃k:Nat,k<=z.length/\i=.int .i64 k/\(∀j,j<k->0<=ci z j/\ci z j<n)/\wr=w
def aAN(n:Int)(z:List Int)(w:World)(e:Ending)(w':World):Prop:=
 w'=w/\(((∃k,k<z.length/\(ci z k<0∨n<=ci z k))/\∃k:Nat,e=.returned (.int .i64 (k:Int)))∨((∀k,k<z.length->0<=ci z k/\ci z k<n)/\e=.returned (.int .i64 (-1))))
theorem gY{z:List Int}{o:Option Addr}{c:Nat}{w:World}(hS:RowIs w o (aF z) c)(k:Nat)(hk:k<z.length):∃b off,o=some ⟨b,off,none⟩/\w.cell? ⟨b,off+k,none⟩=some (.int .i64 (ci z k)):=by
 obtain⟨b,off,rfl,_,hc⟩:=hS.cells (by simp;omega);exact⟨b,off,rfl,hc k _ (by simp[aF,ci,List.getD_eq_getElem?_getD,hk])⟩
theorem EQ(z:List Int)(n:Int)(Q c:Nat)(o:Option Addr)(w:World)(hS:RowIs w o (aF z) c)(hq:Boxed w Q 3 (.int .i64 n)):
  Calls Tryz.prog 219 #[.slice o z.length c,.func (.func 197) #[] #[.pointer (some ⟨Q,0,none⟩)]] w (aAN n z w):=by
 have h1:=hS.le;have h2:=hS.cap;simp only[bM]at h1;unfold maxLen at h2;have HS:=Lh hS;have HQ:=Lh hq;clear hS hq;go_enter Tryz.func219,Tryz.ntmps219
 go_wp2_with fail;go_loopw [5,8] (fun _ i wr=>aAM n z w i wr) (fun _ i _=>z.length-(intOf i).toNat)
 case atStart=>exact⟨0,Nat.zero_le _,rfl,fun j h=>absurd h qO,rfl⟩
 case round=>
  obtain⟨k,hk,rfl,hall,rfl⟩:=hrel;have HALL:=Lh hall;clear hall;by_cases hlt:k<z.length
  ·obtain⟨b,off,rfl,hcell⟩:=gY HS.out k hlt;obtain⟨p,hp⟩:=qM (ci z k);rw[hp]at hcell;have HP:=Lh hp;have hk0:(0:Int)<=(k:Int):=qO;have hk1:(k:Int)<(z.length:Int):=qO;have HBY:=Lh (EP p n Q wr HQ.out);clear hp;by_cases hb:p<0∨n<=p
   ·rw[decide_eq_true hb]at HBY;have HBB:=Lh hb;clear hb;go_wp2_with fail;refine HBY.out.mono ?_;rintro e w2 ⟨rfl,rfl⟩;go_wp2_with fail;go_ret;exact⟨rfl,.inl ⟨⟨k,hlt,by rw[HP.out];exact HBB.out⟩,k,rfl⟩⟩
   ·rw[decide_eq_false hb]at HBY;have HBB:=Lh hb;clear hb;go_wp2_with fail;refine HBY.out.mono ?_;rintro e w2 ⟨rfl,rfl⟩;go_wp2_with fail;go_roundw
    case rel=>
     refine⟨k+1,qO,by go_num,fun j hj=>?_,rfl⟩;by_cases e:j=k
     ·rw[e,HP.out];have:=HBB.out;omega
     ·exact HALL.out j qO
    case measure=>simp[intOf];omega
  ·obtain rfl:k=z.length:=qO;go_wp2_with fail;go_ret;exact⟨rfl,.inr ⟨HALL.out,rfl⟩⟩
def aAO(n:Int)(z:List Int)(w:World)(e:Ending)(w':World):Prop:=
 w'=w/\(((∃k,k<z.length/\(ci z k<0∨n<=ci z k))/\e=.returned (.bool true))∨((∀k,k<z.length->0<=ci z k/\ci z k<n)/\e=.returned (.bool false)))
theorem wn(z:List Int)(n:Int)(Q c:Nat)(o:Option Addr)(w:World)(hS:RowIs w o (aF z) c)(hq:Boxed w Q 3 (.int .i64 n)):
  Calls Tryz.prog 198 #[.slice o z.length c,.func (.func 197) #[] #[.pointer (some ⟨Q,0,none⟩)]] w (aAO n z w):=by
 have HI:=Lh (EQ z n Q c o w hS hq);clear hS hq;go_enter Tryz.func198,Tryz.ntmps198
 go_wp2_with fail;refine HI.out.mono ?_;rintro e w2 ⟨rfl,⟨h,k,rfl⟩|⟨h,rfl⟩⟩
 ·have hk:(0:Int)<=(k:Int):=qO;have H:=Lh h;clear h;go_wp2_with fail;go_ret;exact⟨rfl,.inl ⟨H.out,rfl⟩⟩
 ·have H:=Lh h;clear h;go_wp2_with fail;go_ret;exact⟨rfl,.inr ⟨H.out,rfl⟩⟩
def zb:Array Value:=Array.replicate 255 (.bool false)
theorem ER(w:World):Sem.run Tryz.prog (zeroValue 298) w=.ok (.agg zb) w:=qK
def Seen(z:List Int)(k:Nat)(D:Array Value):Prop:=D.size=255/\∀p,p<255->D[p]? =some (.bool (decide (∃j,j<k/\ci z j=(p:Int))))
def aAP(z:List Int)(w:World)(i:Value)(wr:World):Prop:=∃(k:Nat)(D:Array Value),k<=z.length/\i=.int .i64 k/\Seen z k D/\(∀a b,b<a->a<k->ci z a≠ci z b)/\wr=w.alloc (.cells D 298)
def YJ(z:List Int)(w:World)(e:Ending)(w':World):Prop:=
 Below w.heap.size w w'/\(((∃i j,j<i/\i<z.length/\ci z i=ci z j)/\e=.returned (.bool true))∨((∀i j,j<i->i<z.length->ci z i≠ci z j)/\e=.returned (.bool false)))
theorem Seen.step{z:List Int}{k p:Nat}{D:Array Value}(h:Seen z k D)(hp:ci z k=(p:Int))(hp2:p<255):Seen z (k+1) (D.setIfInBounds p (.bool true)):=by
 refine⟨by simp[h.1],fun q hq=>?_⟩;simp only[Array.getElem?_setIfInBounds];by_cases e:p=q
 ·subst e;rw[if_pos rfl,if_pos (by rw[h.1];exact hq)];congr 2
  exact(decide_eq_true ⟨k,qO,hp⟩).symm
 ·rw[if_neg e,h.2 q hq];congr 2
  refine decide_eq_decide.2 ⟨fun⟨j,h1,h2⟩=>⟨j,qO,h2⟩,fun⟨j,h1,h2⟩=>⟨j,?_,h2⟩⟩;by_cases ej:j=k
  ·rw[ej,hp]at h2;omega
  ·omega
theorem ES(Z:Array Value)(hz:∀w,Sem.run Tryz.prog (zeroValue 298) w=.ok (.agg Z) w)(z:List Int)(hZ:Seen z 0 Z)(n c:Nat)(o:Option Addr)(w:World)(hS:RowIs w o (aF z) c)(hn:n<=255)(hin:∀k,k<z.length->0<=ci z k/\ci z k<n):
  Calls Tryz.prog 199 #[.slice o z.length c] w (YJ z w):=by
 have h1:=hS.le;have h2:=hS.cap;simp only[bM]at h1;unfold maxLen at h2;have HS:=Lh hS;have HZ:=Lh hZ;have HIN:=Lh hin;clear hS hZ hin;go_enter Tryz.func199,Tryz.ntmps199
 go_wp2_with fail;clear hz;go_loopw [5,8] (fun _ i wr=>aAP z w i wr) (fun _ i _=>z.length-(intOf i).toNat)
 case atStart=>exact⟨0,Z,Nat.zero_le _,rfl,HZ.out,fun a b _ h=>absurd h qO,rfl⟩
 case round=>
  obtain⟨k,D,hk,rfl,hD,hdis,rfl⟩:=hrel;have HDIS:=Lh hdis;have HD:=Lh hD;by_cases hlt:k<z.length
  ·obtain⟨b,off,rfl,hcell⟩:=gY (HS.out.later (qB.alloc qN (.cells D 298))) k hlt;have hpn:=HIN.out k hlt;obtain⟨p,hp⟩:=Int.eq_ofNat_of_zero_le hpn.1;rw[hp]at hcell hpn;have hp255:p<255:=qO;have hDp:=hD.2 p hp255;have HP:=Lh hp;have hk0:(0:Int)<=(k:Int):=qO;have hk1:(k:Int)<(z.length:Int):=qO;have hp0:(0:Int)<=(p:Int):=qO;have hp1:(p:Int)<255:=qO;have HPN:Hid (p<255):=Lh hp255;by_cases hs:∃j,j<k/\ci z j=(p:Int)
   ·rw[decide_eq_true hs]at hDp;have HSS:=Lh hs;clear hs hp hdis hD hpn;go_wp2_with fail;go_ret;obtain⟨j,hj,hjp⟩:=HSS.out;exact⟨qB.alloc qN _,.inl ⟨⟨k,j,hj,hlt,by rw[hjp,HP.out]⟩,rfl⟩⟩
   ·rw[decide_eq_false hs]at hDp;have HSS:=Lh hs;clear hs hp hdis hD hpn;go_wp2_with fail;go_roundw
    case rel=>
     refine⟨k+1,D.setIfInBounds p (.bool true),qO,by go_num,HD.out.step HP.out HPN.out,fun a b hb ha=>?_,rfl⟩;by_cases e:a=k
     ·rw[e]at hb⊢;intro h;exact HSS.out ⟨b,hb,by rw[<-h,HP.out]⟩
     ·exact HDIS.out a b hb qO
    case measure=>simp[intOf];omega
  ·obtain rfl:k=z.length:=qO;clear hD;go_wp2_with fail;go_ret;exact⟨qB.alloc qN _,.inr ⟨fun i j h1 h2=>HDIS.out i j h1 h2,rfl⟩⟩
theorem B9(z:List Int)(n c:Nat)(o:Option Addr)(w:World)(hS:RowIs w o (aF z) c)(hn:n<=255)(hin:∀k,k<z.length->0<=ci z k/\ci z k<n):
  Calls Tryz.prog 199 #[.slice o z.length c] w (YJ z w):=by
 refine ES zb ER z ⟨by simp[zb],fun p hp=>?_⟩ n c o w hS hn hin;rw[decide_eq_false (fun⟨j,hj,_⟩=>absurd hj qO)];simp[zb,hp]
section
attribute [local go_sem] Oper.semAt_some
theorem wo(l:Nat)(I:Nat->World->Prop)(B Bx:World->Prop)(o:Option Addr)(z:BL)(c Q:Nat)(w:World)
  (hI:∀i X,I i X->Boxed X Q 22 (.slice o z.length c)/\RowIs X o (bytesV z) c)
  (hA:∀i X ob,I i X->I i (X.alloc ob)) (hBk:∀X X',B X->KeepsOthers X X'->B X')
  (hturn:∀i A X,I i X->B X->i<z.length->X.heap[A]? =some (.cells #[.int .u8 1,.int .u8 ((co z i).toNat:Int)] 5 (0,0))->
   YieldAt Fence.wide 0 Tryz.prog l #[.slice (some ⟨A,0,none⟩) 2 2] X fun e X'=>(e=.returned (.bool true)/\I (i+1) X'/\B X')∨(e=.returned (.bool false)/\Bx X'))
  (h0:I 0 w) (hB:B w):
  Calls Tryz.prog 221 #[.func (.yield l) #[] #[],.pointer (some ⟨Q,0,none⟩)] w fun e X=>(∃v,e=.returned v)/\((I z.length X/\B X)∨Bx X):=by
 refine(callsIn_wide (n:=0)).1 (callsIn_of_wp Tryz.func221 rfl trivial ?_ rfl);simp only[Tryz.ntmps221,List.size_toArray,List.length_cons,List.length_nil,Nat.reduceAdd,Nat.reduceSub,Array.replicate_succ,Array.replicate_zero,List.push_toArray,List.append_toArray,List.nil_append,List.cons_append];have hq:=(hI _ _ h0).1.cell;have hr0:=(hI _ _ h0).2;have hn:z.length<=9223372036854775807:=by
  have h1:=hr0.le;have h2:=hr0.cap;simp only[bytesV_length]at h1;unfold maxLen at h2;omega
 clear hr0;gi_wp2
 gi_loopw [4,7] (fun _ p wr=>∃k:Nat,k<=z.length/\p=.int .i64 (k:Int)/\I k wr/\B wr) (fun _ p wr=>z.length-(intOf p).toNat)
 case atStart=>exact⟨0,Nat.zero_le _,rfl,h0,hB⟩
 case round=>
  obtain⟨k,hk,rfl,hi,hb⟩:=hrel;obtain⟨hq2,hr⟩:=hI _ _ hi;by_cases hlt:k<z.length
  ·have hm:=hr.cap;have hle:=hr.le;simp only[bytesV_length]at hle;unfold maxLen at hm;obtain⟨b1,off1,rfl,hb1,hcell⟩:=hr.cells (by simp;omega);have hc1:wr.cell? ⟨b1,off1+k,none⟩=some (.int .u8 ((co z k).toNat:Int)):=hcell k _ (aB z k qO);have hx:=UInt8.toNat_lt (co z k);obtain⟨fn,tmps,assign,body,hy,hR⟩:=hturn k wr.heap.size (wr.alloc (.cells #[.int .u8 1,.int .u8 ((co z k).toNat:Int)] 5)) (hA _ _ _ hi) (hBk _ _ hb (KeepsOthers.alloc _ _)) hlt (World.alloc_heap_new _ _);have HI:=Lh hI;have HT:=Lh hturn;clear hcell hI hturn;gi_wp2
   refine⟨rfl,hR.mono ?_⟩;rintro e W3 (⟨rfl,hi3,hb3⟩|⟨rfl,hx3⟩)
   ·gi_wp2
    go_roundw
    case rel=>exact⟨k+1,qO,by go_num,hi3,hb3⟩
    case measure=>simp[intOf];omega
   ·gi_wp2
    refine bodyPost_ret (results_none rfl _ _ _) rfl ?_;exact⟨⟨_,rfl⟩,.inr hx3⟩
  ·obtain rfl:k=z.length:=qO;gi_wp2
   go_end0
   exact⟨⟨_,rfl⟩,.inl ⟨hi,hb⟩⟩
theorem sO(z:BL)(o:Option Addr)(c Q:Nat):yl 221 (fun r=>[1,r]) z o c Q:=
 fun l I B Bx w hI hA hBk hturn h0 hB=>wo l I B Bx o z c Q w hI hA hBk (fun i A X a b d e=>hturn i A X a b d e) h0 hB
theorem zM(z:BL)(o:Option Addr)(c:Nat)(w:World)(hl:z.length<=1000)(hR:RowIs w o (bytesV z) c):
  Calls Tryz.prog 201 #[.slice o z.length c] w fun e w'=>∃g cap,e=.returned (.slice (some ⟨g,0,none⟩) (tr (cD (fun r=>[1,r]) z z.length)).length cap)/\w.heap.size<=g/\Below w.heap.size w w'/\RowIs w' (some ⟨g,0,none⟩) (bytesV (tr (cD (fun r=>[1,r]) z z.length))) cap:=by
 have hmf:= @makes Tryz.prog;have hcal:=Fz 221 (fun r=>[1,r]) (fun _=>rfl) z o c w.heap.size (w.alloc (.cells #[.slice o z.length c] 22)) (enters_of Tryz.func221 qK rfl) (sO z o c _) hl (Boxed.new w _ _) (hR.later (qB.alloc qN _));have HCAL:=Lh hcal;clear hcal hR;go_enter Tryz.func201,Tryz.ntmps201
 go_wp2_with fail;refine HCAL.out.mono ?_;rintro e w1 ⟨g,cap,rfl,hg,hb,hr⟩;have HB:=Lh hb;have HR:=Lh hr;have hg2:w.heap.size<=g:=by simp at hg;omega
 clear hb hr hg HCAL hmf;go_wp2_with fail;go_ret;exact⟨g,cap,rfl,hg2,((Below.refl w.heap.size w).alloc qN _).trans (HB.out.mono qS),HR.out⟩
end
def EOk(n:Nat)(z:List Int):Prop:=(∀k,k<z.length->0<=ci z k/\ci z k<n)/\(∀i j,j<i->i<z.length->ci z i≠ci z j)/\z.length<=32
def zN(A:Nat->Addr)(k:Nat):Ending:=.returned (.tuple #[.slice none 0 0,.iface 302 (.pointer (some (A k)))])
def YK(n:Nat)(z:List Int)(A:Nat->Addr)(w:World)(e:Ending)(w':World):Prop:=
 Below w.heap.size w w'/\(((∃k,k<z.length/\(ci z k<0∨(n:Int)<=ci z k))/\e=zN A 0)∨
  ((∀k,k<z.length->0<=ci z k/\ci z k<n)/\(((∃i j,j<i/\i<z.length/\ci z i=ci z j)/\e=zN A 9)∨
   ((∀i j,j<i->i<z.length->ci z i≠ci z j)/\((32<z.length/\e=zN A 15)∨
    (z.length<=32/\∃x,e=.returned (.tuple #[x,.nilIface])/\RowV (tr (cD (fun r=>[1,r]) (xsL n z) z.length)) x w'))))))
def aAQ(n:Nat)(z:List Int)(w w2:World)(v i:Value)(wr:World):Prop:=
 ∃k:Nat,k<=z.length/\i=.int .i64 k/\wr.ownsRow w2.heap.size 5 1 v k (bytesV ((xsL n z).take k))/\Below w2.heap.size w2 wr
theorem rN(z:List Int)(n c:Nat)(o:Option Addr)(w:World)(A:Nat->Addr)(hS:RowIs w o (aF z) c)(hn1:33<=n)(hn2:n<=255)(hl:z.length<=900)(hE:¬EOk n z->Er.Six w A):
  Calls Tryz.prog 175 #[.int .i64 n,.slice o z.length c] w (YK n z A w):=by
 have h1:=hS.le;have h2:=hS.cap;simp only[bM]at h1;unfold maxLen at h2;obtain⟨w1,hw1⟩:=qM (w.alloc (.cells #[.int .i64 (n:Int)] 3));have hb1:Below w.heap.size w w1:=by rw[<-hw1];exact qB.alloc qN _
 have hq1:Boxed w1 w.heap.size 3 (.int .i64 (n:Int)):=by rw[<-hw1];exact Boxed.new w _ _
 have hS1:=hS.later hb1;have hcc:=wn z n w.heap.size c o w1 hS1 hq1;rw[<-hw1]at hcc;have HCC:=Lh hcc;have HB1:=Lh hb1;have HQ1:=Lh hq1;have HS1:=Lh hS1;have HW1:=Lh hw1;have HE:Hid (¬EOk n z->Er.Six w1 A):=Lh fun h=>(hE h).later hb1
 have hd1:decide ((n:Int)<=32)=false:=decide_eq_false qO;have hd2:decide (255<(n:Int))=false:=decide_eq_false qO;clear hS hE hb1 hq1 hS1 hcc hw1;go_enter Tryz.func175,Tryz.ntmps175
 go_wp2_with fail;refine HCC.out.mono ?_;rintro e w2 ⟨he,hx⟩;rw[HW1.out]at he;subst he;rcases hx with ⟨hbad,rfl⟩|⟨hin,rfl⟩
 ·have hE0:=(HE.out (fun h=>by obtain⟨k,hk,hb⟩:=hbad;have:=h.1 k hk;omega)).c0;have HBAD:=Lh hbad;clear hbad;go_wp2_with fail;go_quiet (fail)
  go_wp2
  go_ret2
  exact⟨HB1.out.trans ⟨rfl,rfl,rfl,Nat.le_refl _,fun _ _=>rfl⟩,.inl ⟨HBAD.out,rfl⟩⟩
 ·have HIN:=Lh hin;have HDB:=Lh (B9 z n c o w2 HS1.out hn2 hin);clear hin;go_wp2_with fail;refine HDB.out.mono ?_;rintro e w3 ⟨hb3,⟨hdup,rfl⟩|⟨hdis,rfl⟩⟩
  ·have hE9:=((HE.out (fun h=>by obtain⟨i,j,h1,h2,h3⟩:=hdup;exact h.2.1 i j h1 h2 h3)).later hb3).c9;have HDUP:=Lh hdup;have HB3:=Lh (Ks HB1.out hb3);clear hdup hb3;go_wp2_with fail;go_quiet (fail)
   go_wp2
   go_ret2
   exact⟨HB3.out.trans ⟨rfl,rfl,rfl,Nat.le_refl _,fun _ _=>rfl⟩,.inr ⟨HIN.out,.inl ⟨HDUP.out,rfl⟩⟩⟩
  ·have HDIS:=Lh hdis;have HB3:=Lh (Ks HB1.out hb3);have HS3:=Lh (HS1.out.later hb3);have HQ3:=Lh (aC HQ1.out hb3);by_cases h32:32<z.length
   ·have hd32:decide ((32:Int)<(z.length:Int))=true:=decide_eq_true qO;have hE15:=((HE.out (fun h=>by have:=h.2.2;omega)).later hb3).c15;clear hdis hb3;go_wp2_with fail;go_quiet (fail)
    go_wp2
    go_ret2
    exact⟨HB3.out.trans ⟨rfl,rfl,rfl,Nat.le_refl _,fun _ _=>rfl⟩,.inr ⟨HIN.out,.inr ⟨HDIS.out,.inl ⟨h32,rfl⟩⟩⟩⟩
   ·have hd32:decide ((32:Int)<(z.length:Int))=false:=decide_eq_false qO;clear hdis hb3;go_wp2_with fail;go_loopw [7,9,35] (fun v _ i wr=>aAQ n z w w3 v i wr) (fun _ _ i _=>z.length-(intOf i).toNat)
    case atStart=>exact⟨0,Nat.zero_le _,rfl,World.ownsRow_nil _ _ _ _,Below.refl _ _⟩
    case round=>
     obtain⟨k,hk,rfl,hv,hb⟩:=hrel;have HV:=Lh hv;have HB:=Lh hb;by_cases hlt:k<z.length
     ·obtain⟨b,off,rfl,hcell⟩:=gY (HS3.out.later hb) k hlt;have hin:=HIN.out k hlt;have hcx:=MU n z k hlt;obtain⟨p,hp⟩:=Int.eq_ofNat_of_zero_le hin.1;rw[hp]at hcell hin hcx;have HPW:Hid (∀v,Calls Tryz.prog 200 #[.int .i64 (n:Int),.int .i64 (p:Int)] v fun e w'=>e=.returned (.int .u8 ((co (xsL n z) k).toNat:Int))/\w'=v):=Lh fun v=>by
       have:=mQ (n:Int) (p:Int) v;rwa[pwv,if_pos ⟨qO,qO,qO,qO⟩,show((n:Int)-1-(p:Int)).toNat=n-1-p by omega,<-(show co (xsL n z) k=Gf.al (n-1-p) from hcx)]at this
      have HTS:Hid ((xsL n z).take k++[co (xsL n z) k]=(xsL n z).take (k+1)):=Lh (ru (xsL n z) k (by simp[xsL];omega)).symm;obtain⟨x,hx⟩:=qM (co (xsL n z) k);rw[hx]at HPW HTS;have hxl:=UInt8.toNat_lt x;have hqn:=(aC HQ3.out hb).cell;have hk0:(0:Int)<=(k:Int):=qO;have hk1:(k:Int)<(z.length:Int):=qO;have HV2:=Lh (World.ownsRow.alloc HV.out (.cells (bytesV [x]).toArray 5));have HB2':=Lh (HB.out.alloc HB.out.size (.cells (bytesV [x]).toArray 5));clear hp hin hcx hx hv hb;go_wp2_with fail;refine(HPW.out _).mono ?_;rintro e w' ⟨rfl,rfl⟩;go_wp2_with (at_builtin;refine aL rfl (.tmp 39) (.tmp 43) rfl w3.heap.size _ k ((xsL n z).take k) rfl HV2.out _ 1 1 [x] rfl rfl (bp (World.alloc_heap_new _ _) (by unfold maxLen;simp)) qO HB2'.out.size ?_)
      intro v' w' hv hg;rw[HTS.out]at hv;have HV3:=Lh hv;have HB3':=Lh (own_below (n:=0) HB2'.out HV2.out hg);clear hv hg;go_wp2
      go_roundw
      case rel=>exact⟨k+1,qO,by go_num,HV3.out,HB3'.out⟩
      case measure=>simp[intOf];omega
     ·obtain rfl:k=z.length:=qO;have hfull:(xsL n z).take z.length=xsL n z:=List.take_of_length_le (by simp[xsL]);have hxl:(xsL n z).length=z.length:=by simp[xsL]
      obtain⟨o3,c3,rfl,hr⟩:=da HV.out (by simp[xsL]);rw[hfull]at hr;have hi:=zM (xsL n z) o3 c3 wr (by rw[hxl];omega) hr;rw[hxl]at hi;have HI:=Lh hi;have HBW:=Lh (Ks HB3.out hb);have HLEN:Hid (((xsL n z).take z.length).length=z.length):=Lh (by rw[hfull,hxl]);clear hi hr hv hb hfull;rw[HLEN.out];go_wp2_with fail;refine HI.out.mono ?_;rintro e w4 ⟨g,cap,rfl,hg,hb4,hr4⟩;have HB4:=Lh (Ks HBW.out hb4);have HR4:=Lh hr4;clear hg hb4 hr4 HI;go_wp2_with fail;go_ret2
      exact⟨HB4.out,.inr ⟨HIN.out,.inr ⟨HDIS.out,.inr ⟨qO,_,rfl,⟨_,_,rfl,HR4.out⟩⟩⟩⟩⟩
def dC(s g:BL):BL:=tab (fun i=>co (bB s g) ((tr g).length-1+i)) (32-((tr g).length-1))
def fnL(P:BL)(E N k:Nat):BL:=tab (fun i=>if i<k then co P (E+i)else 0) N
theorem Na(P:BL)(E N:Nat):List.replicate N (0:UInt8)=fnL P E N 0:=aN (by simp[fnL]) fun i hi=>by
 rw[cw,fnL,aT _ _ _ (by simpa using hi),if_neg qO]
theorem RZ(P:BL)(E N k:Nat)(h:k<N):(fnL P E N k).set k (co P (E+k))=fnL P E N (k+1):=aN (by simp[fnL]) fun i hi=>by
 have hi2:i<N:=by simpa[fnL]using hi
 rw[cj,fnL,fnL,aT _ _ _ hi2,aT _ _ _ hi2,dU];by_cases e:k=i
 ·subst e;rw[if_pos ⟨rfl,h⟩,if_pos qO]
 ·rw[if_neg (fun h=>e h.1)];by_cases h2:i<k
  ·rw[if_pos h2,if_pos qO]
  ·rw[if_neg h2,if_neg qO]
theorem Nb(P:BL)(E N k:Nat)(h:P.length<=E+k):fnL P E N k=fnL P E N (k+1):=aN (by simp[fnL]) fun i hi=>by
 have hi2:i<N:=by simpa[fnL]using hi
 rw[fnL,fnL,aT _ _ _ hi2,aT _ _ _ hi2];by_cases h2:i<k
 ·rw[if_pos h2,if_pos qO]
 ·by_cases e:i=k
  ·subst e;rw[if_neg h2,if_pos qO,aZ h]
  ·rw[if_neg h2,if_neg qO]
def aAS(P:BL)(E N:Nat)(w3:World)(iv:Value)(wr:World):Prop:=
 ∃k:Nat,k<=N/\iv=.int .i64 k/\Buf wr w3.heap.size N (fnL P E N k)/\Below w3.heap.size w3 wr
theorem Nc(s g:BL)(o:Option Addr)(c:Nat)(w:World)(hs:s.length=32)(hG:RowIs w o (bytesV g) c)(hl:g.length<=10000)(h0:1<=(tr g).length)(he:(tr g).length<=33)(C:Array Value)(hC:(bytesV s).toArray=C):
  Calls Tryz.prog 176 #[.agg C,.slice o g.length c] w (Rows (dC s g) w):=by
 obtain⟨i0,hi,hz0,hz1,hz2⟩:=info_parts ao;have h3:=hG.le;have h4:=hG.cap;simp only[bytesV_length]at h3;unfold maxLen at h4;obtain⟨w1,hw1⟩:=qM (w.alloc (.cells C 232));have hb1:Below w.heap.size w w1:=by rw[<-hw1];exact qB.alloc qN _
 have hg1:w1.heap[w.heap.size]? =some (.cells C 232 (0,0)):=by rw[<-hw1];exact World.alloc_heap_new w _
 have hdg:=qg o g c w1 (hG.later hb1);rw[<-cL]at hdg;obtain⟨E,hE⟩:∃E,(tr g).length=E+1:=⟨(tr g).length-1,qO⟩;rw[hE,show((E+1:Nat):Int)-1=(E:Int) by omega,<-hw1]at hdg;obtain⟨N,hN⟩:=qM (32-E);have HDG:=Lh hdg;have HB1:=Lh hb1;have HG1:=Lh hg1;have HW1:=Lh hw1;have HG:=Lh hG;have HSZ:=Lh (cU hs);rw[hC]at HSZ;have HFO:Hid (dC s g=tab (fun i=>co (tr (bB (tr s) g)) (E+i)) N):=Lh (by
  unfold dC;rw[hE,Nat.add_sub_cancel,hN];refine aN qS fun i hi=>?_
  have hi:i<N:=by simpa using hi
  rw[aT _ _ _ hi,aT _ _ _ hi,eR];exact eU (fun j=>(eR s j).symm) (fun _=>rfl) _)
 have hEN:E+N=32:=qO;have HC:=Lh hC;have hd1:decide ((32:Int)<(E:Int))=false:=decide_eq_false qO;clear hG hb1 hg1 hdg hw1 hE h0 he hN hC;go_enter Tryz.func176,Tryz.ntmps176
 go_wp2_with fail;refine HDG.out.mono ?_;rintro e w2 ⟨rfl,hb⟩;rw[HW1.out]at hb;have HB2:=Lh (Ks HB1.out hb);have HG2:Hid (w2.heap[w.heap.size]? =some (.cells C 232 (0,0))):=Lh (by rw[hb.block _ (aE.1 HG1.out).1];exact HG1.out);have hpo:=sI s hs w2;rw[HC.out]at hpo;have HPO:=Lh hpo;clear hb HDG hpo;go_wp2_with (refine wpList_load_row rfl 232 (.tmp 2) rfl w.heap.size rfl 232 C (0,0) _ HG2.out bT rfl HSZ.out ?_)
 refine HPO.out.mono ?_;rintro e w3 ⟨x,rfl,hx,hb⟩;obtain⟨o3,c3,rfl,hx⟩:=hx;have HB3:=Lh (Ks HB2.out hb);have hts:=iR s;have hmu:=jW (tr s) g o3 o c3 c w3 hx (HG.out.later HB3.out) qO;have HMU:=Lh hmu;have hPl:(tr (bB (tr s) g)).length<=11000:=by
  have h5:=iR (bB (tr s) g);have h6:(bB (tr s) g).length=(tr s).length+g.length:=by simp[bB]
  omega
 clear hx hb hmu HPO;generalize tr (bB (tr s) g)=P at*;go_wp2_with fail;refine HMU.out.mono ?_;rintro e w4 ⟨gp,cp,rfl,hgp,hb,hr⟩;have HB4:=Lh (Ks HB3.out hb);have HP4:=Lh hr;have hPc:=hr.le;have hPc2:=hr.cap;simp only[bytesV_length]at hPc;unfold maxLen at hPc2;have hgp4:0<P.length->gp<w4.heap.size:=fun h0=>by
  obtain⟨b1,f1,e1,h1,_⟩:=hr.cells (by simpa using h0);cases e1;exact h1
 have HGP:=Lh hgp4;have hwN:IntKind.i64.wrap (32-(E:Int))=(N:Int):=by rw[IntKind.wrap_i64];omega
 clear hb hr hgp HMU hgp4;go_wp2_with (at_make;go_loud (refine wpList_make_full _ rfl _ _ 22 rfl 0 5 i0 (.int .u8 0) 1 Tryz.underlying22 hi hz0 hz1 _ _ _ _ N rfl rfl qO qO (by rw[hz2];omega) (by unfold maxLen;omega) (Nat.zero_le _) ?_))
 intro w5 hown hgrow;have hb5:Below w4.heap.size w4 w5:=qB.grown hgrow qN (fun k h=>by cases h);have hbuf:=bK hown;rw[Na P E N]at hbuf;have HB5:=Lh hb5;have HBUF:=Lh hbuf;have HP5:=Lh (HP4.out.later hb5);clear hown hgrow hb5 hbuf;go_wp2_with fail;go_loopw [8,9,23] (fun _ _ i wr=>aAS P E N w4 i wr) (fun _ _ i _=>N-(intOf i).toNat)
 case atStart=>exact⟨0,Nat.zero_le _,rfl,HBUF.out,HB5.out⟩
 case round=>
  obtain⟨k,hk,rfl,hbu,hb⟩:=hrel;by_cases hlt:k<N
  ·obtain⟨m,hm⟩:=qM (E+k);have hwm:IntKind.i64.wrap ((E:Int)+(k:Int))=(m:Int):=by rw[IntKind.wrap_i64];omega
   have hm0:decide ((0:Int)<=(m:Int))=true:=decide_eq_true qO;have hk0:(0:Int)<=(k:Int):=qO;have hk1:(k:Int)<(N:Int):=qO;have HB6:=Lh hb;by_cases hmp:m<P.length
   ·have hmd:decide ((m:Int)<(P.length:Int))=true:=decide_eq_true qO;obtain⟨b1,off1,e1,hb1,hcell⟩:=(HP4.out.later hb).cells (by simp;omega);cases e1
    have hc1:wr.cell? ⟨gp,0+m,none⟩=some (.int .u8 ((co P m).toNat:Int)):=hcell m _ (aB P m hmp);have hc2:=hbu.cell k (by simp[fnL];exact hlt);have hf2:=hbu.frozen k;have hst:=hbu.store k (co P m);rw[<-hm,RZ P E N k hlt,hm]at hst;have HST:=Lh hst;have hmi:(m:Int)<(P.length:Int):=qO;have hm00:(0:Int)<=(m:Int):=qO;rw[Nat.zero_add]at hc1;generalize co P m=x at*;have hxl:=UInt8.toNat_lt x;clear hcell hb1 hbu hst hb hm;go_wp2_with fail;go_roundw
    case rel=>exact⟨k+1,qO,by go_num,HST.out.1,HB6.out.trans (Only.below HST.out.2 qN HB6.out.size)⟩
    case measure=>simp[intOf];omega
   ·have hmd:decide ((m:Int)<(P.length:Int))=false:=decide_eq_false qO;rw[Nb P E N k qO]at hbu;have HST:=Lh hbu;clear hbu hb;go_wp2_with fail;go_roundw
    case rel=>exact⟨k+1,qO,by go_num,HST.out,HB6.out⟩
    case measure=>simp[intOf];omega
  ·obtain rfl:k=N:=qO;have hfin:fnL P E k k=dC s g:=by
    rw[HFO.out];exact aN (by simp[fnL]) fun i hi=>by
     have hi:i<k:=by simpa[fnL]using hi
     rw[fnL,aT _ _ _ hi,aT _ _ _ hi,if_pos hi]
   have HL:Hid (k=(dC s g).length):=Lh (by rw[HFO.out];simp);have HR:=Lh hbu.row;rw[hfin]at HR;have HB7:=Lh (HB4.out.trans (hb.mono HB4.out.size));clear hbu hb hfin;go_wp2_with fail;go_ret;exact⟨_,rfl,⟨_,_,by rw[<-HL.out];rfl,HR.out⟩,HB7.out⟩
theorem Nf(n:Nat)(z:List Int):∀y∈xsL n z,y≠0:=fun y hy=>by
 obtain⟨p,_,rfl⟩:=List.mem_map.1 hy;exact Gf.lM _
theorem zO(n:Nat)(z:List Int):tr (cD (fun r=>[1,r]) (xsL n z) z.length)=Gf.aV (xsL n z):=by
 rw[<-Gf.EL _ (Nf n z)];refine ed fun i=>?_
 have hl:(xsL n z).length=z.length:=by simp[xsL]
 rw[Gf.NX (xsL n z) z.length qO,List.take_of_length_le qO]
theorem ix(n:Nat)(z:List Int):(Gf.aV (xsL n z)).length=z.length+1:=by rw[Gf.az];simp[xsL]
theorem qL(n:Nat)(z:List Int):tr (Gf.aV (xsL n z))=Gf.aV (xsL n z):=Gf.EL _ (Nf n z)
theorem mh(s:BL)(n:Nat)(z:List Int):(dC s (Gf.aV (xsL n z))).length=32-z.length:=by
 unfold dC;rw[dU,qL,ix,Nat.add_sub_cancel]
structure RF(R C:BL)(L:Nat):Prop where
 run:Gf.Run (co R) R.length (co C) L
 least:Gf.Least (co R) R.length L
 le:L<=R.length
 len:C.length<=L+1
def fz:Value:=.agg #[.int .i64 0,.slice none 0 0,.slice none 0 0]
def wv(A:Nat->Addr)(k:Nat):Ending:=.returned (.tuple #[fz,.iface 302 (.pointer (some (A k)))])
def dc(C:BL)(n:Nat)(z:List Int):BL:=tr (bB (tr C) (Gf.aV (xsL n z)))
def jP(s C:BL)(n:Nat)(z:List Int):BL:=tr ((tr (bB (tr s) (dc C n z))).take (ku 32 (tr (bB (tr s) (dc C n z))).length))
def UE(s:BL)(n:Nat)(z:List Int)(A:Nat->Addr)(w:World)(e:Ending)(w':World):Prop:=
 Below w.heap.size w w'/\(((∃k,k<z.length/\(ci z k<0∨(n:Int)<=ci z k))/\e=wv A 0)∨
  ((∀k,k<z.length->0<=ci z k/\ci z k<n)/\(((∃i j,j<i/\i<z.length/\ci z i=ci z j)/\e=wv A 9)∨
   ((∀i j,j<i->i<z.length->ci z i≠ci z j)/\((32<z.length/\e=wv A 15)∨
    (z.length<=32/\∃C L,RF (dC s (Gf.aV (xsL n z))) C L/\
     (((32<2*L+z.length∨(tr C).length<=L)/\e=wv A 16)∨
      (2*L+z.length<=32/\L<(tr C).length/\∃x1 x2,e=.returned (.tuple #[.agg #[.int .i64 (L:Int),x1,x2],.nilIface])/\RowV (dc C n z) x1 w'/\RowV (jP s C n z) x2 w'))))))))
theorem fp:(Tryz.prog.info? 236).map (·.size)=some 3:=qK
theorem mi{w:World}{g:Nat}{a b c:Value}(h:w.heap[g]? =some (.cells #[a,b,c] 236 (0,0)))(x y v:Value):(((w.setCell ⟨g,0,none⟩ x).setCell ⟨g,1,none⟩ y).setCell ⟨g,2,none⟩ v).heap[g]? =some (.cells #[x,y,v] 236 (0,0)):=by
 have e1:=setCell_eq_setRow w g 0 _ _ _ x h;have h1:=setRow_heap w g #[a,b,c] (#[a,b,c].setIfInBounds 0 x) _ _ h;rw[<-e1]at h1;have e2:=setCell_eq_setRow _ g 1 _ _ _ y h1;have h2:=setRow_heap _ g _ ((#[a,b,c].setIfInBounds 0 x).setIfInBounds 1 y) _ _ h1;rw[<-e2]at h2;have e3:=setCell_eq_setRow _ g 2 _ _ _ v h2;have h3:=setRow_heap _ g _ (((#[a,b,c].setIfInBounds 0 x).setIfInBounds 1 y).setIfInBounds 2 v) _ _ h2;rw[<-e3]at h3;simpa using h3
theorem ik{w:World}{g n:Nat}(h:n<=g)(x y v:Value):Below n w (((w.setCell ⟨g,0,none⟩ x).setCell ⟨g,1,none⟩ y).setCell ⟨g,2,none⟩ v):=
 (((Below.refl n w).setCell (p:=⟨g,0,none⟩) h _).setCell (p:=⟨g,1,none⟩) h _).setCell (p:=⟨g,2,none⟩) h _
theorem yH{w:World}{g p:Nat}{a b c:Value}(h:w.heap[g]? =some (.cells #[a,b,c] 236 (0,0)))(hp:p≠g)(x y v:Value):(((w.setCell ⟨g,0,none⟩ x).setCell ⟨g,1,none⟩ y).setCell ⟨g,2,none⟩ v).heap[p]? =w.heap[p]? :=by
 have e1:=setCell_eq_setRow w g 0 _ _ _ x h;have h1:=setRow_heap w g #[a,b,c] (#[a,b,c].setIfInBounds 0 x) _ _ h;rw[<-e1]at h1;have e2:=setCell_eq_setRow _ g 1 _ _ _ y h1;have h2:=setRow_heap _ g _ ((#[a,b,c].setIfInBounds 0 x).setIfInBounds 1 y) _ _ h1;rw[<-e2]at h2;have e3:=setCell_eq_setRow _ g 2 _ _ _ v h2;rw[e3,setRow_other _ _ _ _ hp,e2,setRow_other _ _ _ _ hp,e1,setRow_other _ _ _ _ hp]
theorem Gi{w:World}{g:Nat}{o:Option Addr}{z:BL}{cap:Nat}(h:w.heap[g]? =some (.cells #[.int .i64 0,.slice none 0 0,.slice none 0 0] 236 (0,0)))(hr:RowIs w o (bytesV z) cap)(x y v:Value):RowIs (((w.setCell ⟨g,0,none⟩ x).setCell ⟨g,1,none⟩ y).setCell ⟨g,2,none⟩ v) o (bytesV z) cap:=
 ⟨hr.le,hr.cap,hr.nil,fun h0=>by
  obtain⟨p,off,e,hlt,hc⟩:=hr.cells h0;have h1:=hc 0 _ (aB z 0 (by simpa using h0));have hne:p≠g:=fun e=>by
   subst e;have h2:=cell_of_row w p (off+0) _ _ _ h;rw[h1]at h2;rcases off with _|_|_|k<;>simp at h2
  refine⟨p,off,e,?_,fun i v hv=>(World.cell?_of_block (yH h hne _ _ _)).trans (hc i v hv)⟩;have hb:=yH h hne x y v;rw[Array.getElem?_eq_getElem hlt]at hb;exact(aE.1 hb).1⟩
theorem kY(s:BL)(z:List Int)(n c:Nat)(o:Option Addr)(w:World)(A:Nat->Addr)(hs:s.length=32)(hS:RowIs w o (aF z) c)(hn1:33<=n)(hn2:n<=255)(hl:z.length<=900)(hE:¬EOk n z->Er.Six w A)
  (hE2:(∃C L,RF (dC s (Gf.aV (xsL n z))) C L/\(32<2*L+z.length∨(tr C).length<=L))->Er.Six w A) (CS:Array Value) (hCS:(bytesV s).toArray=CS):
  Calls Tryz.prog 145 #[.agg CS,.int .i64 n,.slice o z.length c] w (UE s n z A w):=by
 obtain⟨w1,hw1⟩:=qM ((w.alloc (.cells CS 232)).alloc (.cells #[.int .i64 0,.slice none 0 0,.slice none 0 0] 236));have hb1:Below w.heap.size w w1:=by rw[<-hw1];exact(qB.alloc qN _).alloc qS _
 have hs1:w1.heap[w.heap.size]? =some (.cells CS 232 (0,0)):=by
  rw[<-hw1,(MapKept.heap_alloc _ _).2 _ qS];exact World.alloc_heap_new w _
 have hf1:w1.heap[w.heap.size+1]? =some (.cells #[.int .i64 0,.slice none 0 0,.slice none 0 0] 236 (0,0)):=by
  have:=World.alloc_heap_new (w.alloc (.cells CS 232)) (.cells #[.int .i64 0,.slice none 0 0,.slice none 0 0] 236);rw[hw1,World.size_alloc]at this;exact this
 have HER:=Lh (rN z n c o w1 A (hS.later hb1) hn1 hn2 hl (fun h=>(hE h).later hb1));have HE2:Hid ((∃C L,RF (dC s (Gf.aV (xsL n z))) C L/\(32<2*L+z.length∨(tr C).length<=L))->Er.Six w1 A):=Lh fun h=>(hE2 h).later hb1
 have HGW:Hid ((∃C L,RF (dC s (Gf.aV (xsL n z))) C L/\(32<2*L+z.length∨(tr C).length<=L))-> 16<w.heap.size):=Lh fun h=>by
  obtain⟨o,ho,_⟩:=cells_of_cell (hE2 h).c16;exact(aE.1 ho).1
 have HB1:=Lh hb1;have HS1:=Lh hs1;have HF1:=Lh hf1;have HW1:=Lh hw1;have HSZ:=Lh (cU hs);rw[hCS]at HSZ;have HCS:=Lh hCS;rw[<-hw1]at HER;have hc10:w1.cell? ⟨w.heap.size+1,0,none⟩=some (.int .i64 0):=by rw[cell_of_row _ _ 0 _ _ _ hf1];rfl
 clear hS hE hE2 hb1 hs1 hf1 hw1 hCS hc10;go_enter Tryz.func145,Tryz.ntmps145
 go_wp2_with fail;refine HER.out.mono ?_;rintro e w2 hto;rw[HW1.out]at hto;obtain⟨hb2,hto⟩:=hto;have HB2:=Lh (Ks HB1.out hb2);rcases hto with ⟨h,rfl⟩|⟨hin,⟨h,rfl⟩|⟨hdis,⟨h,rfl⟩|⟨h32,x,rfl,hx⟩⟩⟩
 ·have hf2:w2.heap[w.heap.size+1]? =some (.cells #[.int .i64 0,.slice none 0 0,.slice none 0 0] 236 (0,0)):=by rw[hb2.block _ (aE.1 HF1.out).1];exact HF1.out
  have hcc0:w2.cell? ⟨w.heap.size+1,0,none⟩=some (.int .i64 0):=by rw[cell_of_row _ _ 0 _ _ _ hf2];rfl
  have hff0:w2.frozen? ⟨w.heap.size+1,0,none⟩=false:=by unfold World.frozen?;rw[hf2];rfl
  have hcc1:w2.cell? ⟨w.heap.size+1,1,none⟩=some (.slice none 0 0):=by rw[cell_of_row _ _ 1 _ _ _ hf2];rfl
  have hff1:w2.frozen? ⟨w.heap.size+1,1,none⟩=false:=by unfold World.frozen?;rw[hf2];rfl
  have hcc2:w2.cell? ⟨w.heap.size+1,2,none⟩=some (.slice none 0 0):=by rw[cell_of_row _ _ 2 _ _ _ hf2];rfl
  have hff2:w2.frozen? ⟨w.heap.size+1,2,none⟩=false:=by unfold World.frozen?;rw[hf2];rfl
  have Hh:=Lh h;have HF2:=Lh hf2;unfold zN;clear hb2 hf2 h;go_wp2_with fail;refine bodyPost_ret (aD rfl _ _ (w.heap.size+1) 236 #[.int .i64 0,.slice none 0 0,.slice none 0 0] (0,0) _ rfl (mi HF2.out _ _ _) Tryz.underlying236 rfl fp) rfl ?_;exact⟨HB2.out.trans (ik qO _ _ _),.inl ⟨Hh.out,rfl⟩⟩
 ·have hf2:w2.heap[w.heap.size+1]? =some (.cells #[.int .i64 0,.slice none 0 0,.slice none 0 0] 236 (0,0)):=by rw[hb2.block _ (aE.1 HF1.out).1];exact HF1.out
  have hcc0:w2.cell? ⟨w.heap.size+1,0,none⟩=some (.int .i64 0):=by rw[cell_of_row _ _ 0 _ _ _ hf2];rfl
  have hff0:w2.frozen? ⟨w.heap.size+1,0,none⟩=false:=by unfold World.frozen?;rw[hf2];rfl
  have hcc1:w2.cell? ⟨w.heap.size+1,1,none⟩=some (.slice none 0 0):=by rw[cell_of_row _ _ 1 _ _ _ hf2];rfl
  have hff1:w2.frozen? ⟨w.heap.size+1,1,none⟩=false:=by unfold World.frozen?;rw[hf2];rfl
  have hcc2:w2.cell? ⟨w.heap.size+1,2,none⟩=some (.slice none 0 0):=by rw[cell_of_row _ _ 2 _ _ _ hf2];rfl
  have hff2:w2.frozen? ⟨w.heap.size+1,2,none⟩=false:=by unfold World.frozen?;rw[hf2];rfl
  have Hhin:=Lh hin;have Hh:=Lh h;have HF2:=Lh hf2;unfold zN;clear hb2 hf2 hin h;go_wp2_with fail;refine bodyPost_ret (aD rfl _ _ (w.heap.size+1) 236 #[.int .i64 0,.slice none 0 0,.slice none 0 0] (0,0) _ rfl (mi HF2.out _ _ _) Tryz.underlying236 rfl fp) rfl ?_;exact⟨HB2.out.trans (ik qO _ _ _),.inr ⟨Hhin.out,.inl ⟨Hh.out,rfl⟩⟩⟩
 ·have hf2:w2.heap[w.heap.size+1]? =some (.cells #[.int .i64 0,.slice none 0 0,.slice none 0 0] 236 (0,0)):=by rw[hb2.block _ (aE.1 HF1.out).1];exact HF1.out
  have hcc0:w2.cell? ⟨w.heap.size+1,0,none⟩=some (.int .i64 0):=by rw[cell_of_row _ _ 0 _ _ _ hf2];rfl
  have hff0:w2.frozen? ⟨w.heap.size+1,0,none⟩=false:=by unfold World.frozen?;rw[hf2];rfl
  have hcc1:w2.cell? ⟨w.heap.size+1,1,none⟩=some (.slice none 0 0):=by rw[cell_of_row _ _ 1 _ _ _ hf2];rfl
  have hff1:w2.frozen? ⟨w.heap.size+1,1,none⟩=false:=by unfold World.frozen?;rw[hf2];rfl
  have hcc2:w2.cell? ⟨w.heap.size+1,2,none⟩=some (.slice none 0 0):=by rw[cell_of_row _ _ 2 _ _ _ hf2];rfl
  have hff2:w2.frozen? ⟨w.heap.size+1,2,none⟩=false:=by unfold World.frozen?;rw[hf2];rfl
  have Hhin:=Lh hin;have Hhdis:=Lh hdis;have Hh:=Lh h;have HF2:=Lh hf2;unfold zN;clear hb2 hf2 hin hdis h;go_wp2_with fail;refine bodyPost_ret (aD rfl _ _ (w.heap.size+1) 236 #[.int .i64 0,.slice none 0 0,.slice none 0 0] (0,0) _ rfl (mi HF2.out _ _ _) Tryz.underlying236 rfl fp) rfl ?_;exact⟨HB2.out.trans (ik qO _ _ _),.inr ⟨Hhin.out,.inr ⟨Hhdis.out,.inl ⟨Hh.out,rfl⟩⟩⟩⟩
 ·rw[zO]at hx;obtain⟨o3,c3,rfl,hx⟩:=hx;have hgl:=ix n z;have hrl:=mh s n z;have HIN:=Lh hin;have HDIS:=Lh hdis;have HF2:Hid (w2.heap[w.heap.size+1]? =some (.cells #[.int .i64 0,.slice none 0 0,.slice none 0 0] 236 (0,0))):=Lh (by rw[hb2.block _ (aE.1 HF1.out).1];exact HF1.out);have HS2:Hid (w2.heap[w.heap.size]? =some (.cells CS 232 (0,0))):=Lh (by rw[hb2.block _ (aE.1 HS1.out).1];exact HS1.out);have HFO:=Lh (Nc s (Gf.aV (xsL n z)) o3 c3 w2 hs hx qO (by rw[qL];omega) (by rw[qL];omega) CS HCS.out);have HE3:Hid ((∃C L,RF (dC s (Gf.aV (xsL n z))) C L/\(32<2*L+z.length∨(tr C).length<=L))->Er.Six w2 A):=Lh fun h=>(HE2.out h).later hb2
  have hloceq:(tr (cD (fun r=>[1,r]) (xsL n z) z.length)).length=(Gf.aV (xsL n z)).length:=by rw[zO]
  have HG2:=Lh hx;clear hin hdis hx hb2;try rw[hloceq]
  clear hloceq;have HGLEN:=Lh hgl;obtain⟨G,hG⟩:=qM (Gf.aV (xsL n z));rw[hG]at HFO HG2 HGLEN hrl HE3 HGW⊢;have HGEQ:=Lh hG;clear hgl hG;go_wp2_with (refine wpList_load_row rfl 232 (.tmp 3) rfl w.heap.size rfl 232 CS (0,0) _ HS2.out bT rfl HSZ.out ?_)
  refine HFO.out.mono ?_;rintro e w3 ⟨x,rfl,hx,hb⟩;obtain⟨o4,c4,rfl,hx⟩:=hx;have HF3:Hid (w3.heap[w.heap.size+1]? =some (.cells #[.int .i64 0,.slice none 0 0,.slice none 0 0] 236 (0,0))):=Lh (by rw[hb.block _ (aE.1 HF2.out).1];exact HF2.out);have HS3:Hid (w3.heap[w.heap.size]? =some (.cells CS 232 (0,0))):=Lh (by rw[hb.block _ (aE.1 HS2.out).1];exact HS2.out);have HB3:=Lh (Ks HB2.out hb);have HG3:=Lh (HG2.out.later hb);have HE4:Hid ((∃C L,RF (dC s G) C L/\(32<2*L+z.length∨(tr C).length<=L))->Er.Six w3 A):=Lh fun h=>(HE3.out h).later hb
  have HRG:=Lh (N8 (dC s G) o4 c4 w3 hx qO);obtain⟨R,hR⟩:=qM (dC s G);rw[hR]at HRG hrl⊢;have HRL:=Lh hrl;have HR:=Lh hR;clear hx hb hR HFO hrl;go_wp2_with fail;refine HRG.out.mono ?_;rintro e w4 ⟨C,L,x,rfl,hx,hb,g1,g2,g3,g4⟩;obtain⟨o5,c5,rfl,hx⟩:=hx;have HF4:Hid (w4.heap[w.heap.size+1]? =some (.cells #[.int .i64 0,.slice none 0 0,.slice none 0 0] 236 (0,0))):=Lh (by rw[hb.block _ (aE.1 HF3.out).1];exact HF3.out);have HS4:Hid (w4.heap[w.heap.size]? =some (.cells CS 232 (0,0))):=Lh (by rw[hb.block _ (aE.1 HS3.out).1];exact HS3.out);have HB4:=Lh (Ks HB3.out hb);have HG4:=Lh (HG3.out.later hb);have HE5:Hid ((∃C L,RF (dC s G) C L/\(32<2*L+z.length∨(tr C).length<=L))->Er.Six w4 A):=Lh fun h=>(HE4.out h).later hb
  have HRF:Hid (RF (dC s G) C L):=Lh (by rw[HR.out];exact⟨g1,g2,g3,g4⟩);have HX:=Lh hx;have hLm:L<=32:=by have:=HRL.out;have:=HRF.out.le;rw[HR.out]at this;omega
  have h2L:IntKind.i64.wrap (2*(L:Int))=2*(L:Int):=by rw[IntKind.wrap_i64];omega
  have hdg:=qg o5 (tr C) c5 w4 hx;rw[<-cL,AU]at hdg;have HDG:=Lh hdg;have htc:=iR C;clear hx hb g1 g2 hdg HRG;by_cases h2:R.length<2*L
  ·have hd2:decide ((R.length:Int)<2*(L:Int))=true:=decide_eq_true qO;have HL:Hid (32<2*L+z.length):=Lh (by have:=HRL.out;omega);have hcc0:w4.cell? ⟨w.heap.size+1,0,none⟩=some (.int .i64 0):=by rw[cell_of_row _ _ 0 _ _ _ HF4.out];rfl
   have hff0:w4.frozen? ⟨w.heap.size+1,0,none⟩=false:=by unfold World.frozen?;rw[HF4.out];rfl
   have hcc1:w4.cell? ⟨w.heap.size+1,1,none⟩=some (.slice none 0 0):=by rw[cell_of_row _ _ 1 _ _ _ HF4.out];rfl
   have hff1:w4.frozen? ⟨w.heap.size+1,1,none⟩=false:=by unfold World.frozen?;rw[HF4.out];rfl
   have hcc2:w4.cell? ⟨w.heap.size+1,2,none⟩=some (.slice none 0 0):=by rw[cell_of_row _ _ 2 _ _ _ HF4.out];rfl
   have hff2:w4.frozen? ⟨w.heap.size+1,2,none⟩=false:=by unfold World.frozen?;rw[HF4.out];rfl
   have HLOST:Hid (∃C L,RF (dC s G) C L/\(32<2*L+z.length∨(tr C).length<=L)):=Lh ⟨C,L,HRF.out,.inl HL.out⟩;have hE16:=(HE5.out HLOST.out).c16;have hgw:=HGW.out HLOST.out;have hne1:¬ 16=w.heap.size+1:=qO;have hne2:¬w.heap.size+1= 16:=qO;clear h2;go_wp2_with fail;go_region
   go_wp2_with fail;refine bodyPost_ret (aD rfl _ _ (w.heap.size+1) 236 #[.int .i64 0,.slice none 0 0,.slice none 0 0] (0,0) _ rfl (mi HF4.out _ _ _) Tryz.underlying236 rfl fp) rfl ?_;have hrf:=HRF.out;rw[<-HGEQ.out]at hrf;exact⟨Kit.dn (HB4.out.trans (ik qO _ _ _)) 1,.inr ⟨HIN.out,.inr ⟨HDIS.out,.inr ⟨h32,C,L,hrf,.inl ⟨.inl HL.out,rfl⟩⟩⟩⟩⟩
  ·have hd2:decide ((R.length:Int)<2*(L:Int))=false:=decide_eq_false qO;have HN2:Hid (2*L+z.length<=32):=Lh (by have:=HRL.out;omega);clear h2;go_wp2_with fail;refine HDG.out.mono ?_;rintro e w5 ⟨rfl,hb⟩;have HF5:Hid (w5.heap[w.heap.size+1]? =some (.cells #[.int .i64 0,.slice none 0 0,.slice none 0 0] 236 (0,0))):=Lh (by rw[hb.block _ (aE.1 HF4.out).1];exact HF4.out);have HS5:Hid (w5.heap[w.heap.size]? =some (.cells CS 232 (0,0))):=Lh (by rw[hb.block _ (aE.1 HS4.out).1];exact HS4.out);have HB5:=Lh (Ks HB4.out hb);have HX5:=Lh (HX.out.later hb);have HG5:=Lh (HG4.out.later hb);have HE6:Hid ((∃C L,RF (dC s G) C L/\(32<2*L+z.length∨(tr C).length<=L))->Er.Six w5 A):=Lh fun h=>(HE5.out h).later hb
   clear hb HDG;by_cases h3:(tr C).length<=L
   ·have hd3:decide (((tr C).length:Int)-1<(L:Int))=true:=decide_eq_true qO;have HL:=Lh h3;have hcc0:w5.cell? ⟨w.heap.size+1,0,none⟩=some (.int .i64 0):=by rw[cell_of_row _ _ 0 _ _ _ HF5.out];rfl
    have hff0:w5.frozen? ⟨w.heap.size+1,0,none⟩=false:=by unfold World.frozen?;rw[HF5.out];rfl
    have hcc1:w5.cell? ⟨w.heap.size+1,1,none⟩=some (.slice none 0 0):=by rw[cell_of_row _ _ 1 _ _ _ HF5.out];rfl
    have hff1:w5.frozen? ⟨w.heap.size+1,1,none⟩=false:=by unfold World.frozen?;rw[HF5.out];rfl
    have hcc2:w5.cell? ⟨w.heap.size+1,2,none⟩=some (.slice none 0 0):=by rw[cell_of_row _ _ 2 _ _ _ HF5.out];rfl
    have hff2:w5.frozen? ⟨w.heap.size+1,2,none⟩=false:=by unfold World.frozen?;rw[HF5.out];rfl
    have HLOST:Hid (∃C L,RF (dC s G) C L/\(32<2*L+z.length∨(tr C).length<=L)):=Lh ⟨C,L,HRF.out,.inr HL.out⟩;have hE16:=(HE6.out HLOST.out).c16;have hgw:=HGW.out HLOST.out;have hne1:¬ 16=w.heap.size+1:=qO;have hne2:¬w.heap.size+1= 16:=qO;clear h3;go_wp2_with fail;go_region
    go_wp2_with fail;refine bodyPost_ret (aD rfl _ _ (w.heap.size+1) 236 #[.int .i64 0,.slice none 0 0,.slice none 0 0] (0,0) _ rfl (mi HF5.out _ _ _) Tryz.underlying236 rfl fp) rfl ?_;have hrf:=HRF.out;rw[<-HGEQ.out]at hrf;exact⟨Kit.dn (HB5.out.trans (ik qO _ _ _)) 1,.inr ⟨HIN.out,.inr ⟨HDIS.out,.inr ⟨h32,C,L,hrf,.inl ⟨.inr HL.out,rfl⟩⟩⟩⟩⟩
   ·have hd3:decide (((tr C).length:Int)-1<(L:Int))=false:=decide_eq_false qO;have HN3:Hid (L<(tr C).length):=Lh qO;have HMU:=Lh (jW (tr C) G o5 o3 c5 c3 w5 HX5.out HG5.out (by have:=HGLEN.out;have:=HRF.out.len;omega));have HML:Hid ((tr (bB (tr C) G)).length<=1000):=Lh (by
     have h5:=iR (bB (tr C) G);have h6:(bB (tr C) G).length=(tr C).length+G.length:=by simp[bB]
     have:=HGLEN.out;have:=HRF.out.len;omega)
    obtain⟨M,hM⟩:=qM (tr (bB (tr C) G));rw[hM]at HMU HML;have HMEQ:=Lh hM;clear h3 hM;go_wp2_with fail;refine HMU.out.mono ?_;rintro e w6 ⟨g6,c6,rfl,hg6,hb,hr⟩;have HF6:Hid (w6.heap[w.heap.size+1]? =some (.cells #[.int .i64 0,.slice none 0 0,.slice none 0 0] 236 (0,0))):=Lh (by rw[hb.block _ (aE.1 HF5.out).1];exact HF5.out);have HS6:Hid (w6.heap[w.heap.size]? =some (.cells CS 232 (0,0))):=Lh (by rw[hb.block _ (aE.1 HS5.out).1];exact HS5.out);have HB6:=Lh (Ks HB5.out hb);have HR6:=Lh hr;have hpo:=sI s hs w6;rw[HCS.out]at hpo;have HPO:=Lh hpo;clear hb hr hg6 HMU hpo;go_wp2_with (refine wpList_load_row rfl 232 (.tmp 3) rfl w.heap.size rfl 232 CS (0,0) _ HS6.out bT rfl HSZ.out ?_)
    refine HPO.out.mono ?_;rintro e w7 ⟨x,rfl,hx,hb⟩;obtain⟨o7,c7,rfl,hx⟩:=hx;have HF7:Hid (w7.heap[w.heap.size+1]? =some (.cells #[.int .i64 0,.slice none 0 0,.slice none 0 0] 236 (0,0))):=Lh (by rw[hb.block _ (aE.1 HF6.out).1];exact HF6.out);have HS7:Hid (w7.heap[w.heap.size]? =some (.cells CS 232 (0,0))):=Lh (by rw[hb.block _ (aE.1 HS6.out).1];exact HS6.out);have HB7:=Lh (Ks HB6.out hb);have HR7:=Lh (HR6.out.later hb);have HMU2:=Lh (jW (tr s) M o7 (some ⟨g6,0,none⟩) c7 c6 w7 hx (HR6.out.later hb) (by have:=iR s;have:=HML.out;omega));have HPL:Hid ((tr (bB (tr s) M)).length<=2000):=Lh (by
     have h5:=iR (bB (tr s) M);have h6:(bB (tr s) M).length=(tr s).length+M.length:=by simp[bB]
     have:=iR s;have:=HML.out;omega)
    obtain⟨P,hP⟩:=qM (tr (bB (tr s) M));rw[hP]at HMU2 HPL;have HPEQ:=Lh hP;clear hx hb hP HPO;go_wp2_with fail;refine HMU2.out.mono ?_;rintro e w8 ⟨g8,c8,rfl,hg8,hb,hr⟩;have HF8:Hid (w8.heap[w.heap.size+1]? =some (.cells #[.int .i64 0,.slice none 0 0,.slice none 0 0] 236 (0,0))):=Lh (by rw[hb.block _ (aE.1 HF7.out).1];exact HF7.out);have HS8:Hid (w8.heap[w.heap.size]? =some (.cells CS 232 (0,0))):=Lh (by rw[hb.block _ (aE.1 HS7.out).1];exact HS7.out);have HB8:=Lh (Ks HB7.out hb);have HR8:=Lh (HR7.out.later hb);have HLW:=Lh (QV P 32 (some ⟨g8,0,none⟩) c8 w8 hr (by have:=HPL.out;omega));clear hb hr hg8 HMU2;go_wp2_with fail;refine HLW.out.mono ?_;rintro e w9 ⟨x,rfl,hx,hb⟩;obtain⟨o9,c9,rfl,hx⟩:=hx;have HF9:Hid (w9.heap[w.heap.size+1]? =some (.cells #[.int .i64 0,.slice none 0 0,.slice none 0 0] 236 (0,0))):=Lh (by rw[hb.block _ (aE.1 HF8.out).1];exact HF8.out);have HS9:Hid (w9.heap[w.heap.size]? =some (.cells CS 232 (0,0))):=Lh (by rw[hb.block _ (aE.1 HS8.out).1];exact HS8.out);have HB9:=Lh (Ks HB8.out hb);have HR9:=Lh (HR8.out.later hb);have HX9:=Lh hx;have hcc0:w9.cell? ⟨w.heap.size+1,0,none⟩=some (.int .i64 0):=by rw[cell_of_row _ _ 0 _ _ _ HF9.out];rfl
    have hff0:w9.frozen? ⟨w.heap.size+1,0,none⟩=false:=by unfold World.frozen?;rw[HF9.out];rfl
    have hcc1:w9.cell? ⟨w.heap.size+1,1,none⟩=some (.slice none 0 0):=by rw[cell_of_row _ _ 1 _ _ _ HF9.out];rfl
    have hff1:w9.frozen? ⟨w.heap.size+1,1,none⟩=false:=by unfold World.frozen?;rw[HF9.out];rfl
    have hcc2:w9.cell? ⟨w.heap.size+1,2,none⟩=some (.slice none 0 0):=by rw[cell_of_row _ _ 2 _ _ _ HF9.out];rfl
    have hff2:w9.frozen? ⟨w.heap.size+1,2,none⟩=false:=by unfold World.frozen?;rw[HF9.out];rfl
    clear hx hb HLW;obtain⟨V,hV⟩:=qM (tr (P.take (ku 32 P.length)));rw[hV]at HX9⊢;have HVEQ:=Lh hV;clear hV;go_wp2_with fail;refine bodyPost_ret (aD rfl _ _ (w.heap.size+1) 236 #[.int .i64 (L:Int),.slice (some ⟨g6,0,none⟩) M.length c6,.slice o9 V.length c9] (0,0) _ rfl (mi HF9.out _ _ _) Tryz.underlying236 rfl fp) rfl ?_;have hrf:=HRF.out;rw[<-HGEQ.out]at hrf;have hmeq:dc C n z=M:=by unfold dc;rw[HGEQ.out];exact HMEQ.out
    have hveq:jP s C n z=V:=by unfold jP;rw[hmeq,HPEQ.out];exact HVEQ.out
    refine⟨HB9.out.trans (ik qO _ _ _),.inr ⟨HIN.out,.inr ⟨HDIS.out,.inr ⟨h32,C,L,hrf,.inr ⟨HN2.out,HN3.out,_,_,rfl,?_,?_⟩⟩⟩⟩⟩
    ·rw[hmeq];exact⟨_,_,rfl,Gi HF9.out HR9.out _ _ _⟩
    ·rw[hveq];exact⟨_,_,rfl,Gi HF9.out HX9.out _ _ _⟩
theorem zP(s g:BL)(i:Nat)(h:i<(dC s g).length):co (dC s g) i=co (bB s g) ((tr g).length-1+i):=by
 unfold dC at h⊢;rw[dU]at h;exact aT _ _ _ h
theorem Nj(a b:BL)(h:a.length=b.length)(p:Nat):co (Gf.bV a b) p=co a p^^^co b p:=by
 by_cases hp:p<a.length
 ·simp only[co,Gf.bV,List.getD_eq_getElem?_getD,List.getElem?_zipWith];rw[List.getElem?_eq_getElem hp,List.getElem?_eq_getElem qO];rfl
 ·rw[aZ (by simp[Gf.bV];omega),aZ qO,aZ qO];rfl
theorem sP{a b:BL}(h:a.length=b.length)(p:Nat):co (Gf.bV a b) p≠0↔co b p≠co a p:=by
 rw[Nj a b h];constructor
 ·intro h1 h2;exact h1 (by rw[h2,UInt8.xor_self])
 ·intro h1 h2;exact h1 (Gf.bI _ _ h2).symm
theorem kZ{n p:Nat}{z:List Int}(hn:n<=255)(hp:p<n)(hz:∀k,k<z.length->0<=ci z k/\ci z k<n):Gf.al (n-1-p)∈xsL n z↔(p:Int)∈z:=by
 have hz2:∀q∈z,0<=q/\q<n:=fun q hq=>by
  obtain⟨k,hk,rfl⟩:=List.getElem_of_mem hq;have:=hz k hk;unfold ci at this;rw[List.getD_eq_getElem?_getD,List.getElem?_eq_getElem hk]at this;exact this
 constructor
 ·intro h;obtain⟨q,hq,he⟩:=List.mem_map.1 h;have h1:=hz2 q hq;have h2:=(Gf.uS _ _).1 he;have:q=(p:Int):=qO;rw[<-this];exact hq
 ·intro h;exact List.mem_map.2 ⟨(p:Int),h,qS⟩
structure Chg(v W:BL)(n:Nat)(z:List Int)(H:List Nat):Prop where
 code:IsCode v
 lv:v.length=n
 lw:W.length=n
 hn:n<=255
 ok:EOk n z
 nd:H.Nodup
 mem:∀p∈H,p<n/\co W p≠co v p/\(p:Int) ∉ z
 all:∀p,p<n->co W p≠co v p->(p:Int) ∉ z->p∈H
 few:2*H.length+z.length<=32
def sQ(v W:BL)(n:Nat)(z:List Int):BL:=(Gf.oth (xsL n z) (Gf.bV v W)).map (·.2)
theorem Chg.reg{v W C:BL}{n L:Nat}{z:List Int}{H:List Nat}(h:Chg v W n z H)(hrf:RF (dC (a7 W) (Gf.aV (xsL n z))) C L):
  L=H.length/\∀j,co C j=co (Gf.aV (sQ v W n z)) j:=by
 have hvw:v.length=W.length:=by rw[h.lv,h.lw]
 have hdl:(Gf.bV v W).length=n:=by simp[Gf.bV,h.lv,h.lw]
 have hel:(xsL n z).length=z.length:=by simp[xsL]
 have hfl:=mh (a7 W) n z;have h32:=h.ok.2.2;have hle:=Gf.NZ (xsL n z) (Gf.bV v W) (by rw[hdl];exact h.hn) H fun p hp hc hx=>by
  rw[hdl]at hp hx;refine h.all p hp ((sP hvw p).1 hc) fun hm=>hx ((kZ h.hn hp h.ok.1).2 hm)
 have hge:=Gf.N0 (xsL n z) (Gf.bV v W) (by rw[hdl];exact h.hn) H h.nd fun p hp=>by
  obtain⟨h1,h2,h3⟩:=h.mem p hp;rw[hdl];exact⟨h1,(sP hvw p).2 h2,fun hm=>h3 ((kZ h.hn h1 h.ok.1).1 hm)⟩
 have hfew:=h.few;have hrun:=hrf.run;have hlst:=hrf.least;rw[hfl]at hrun hlst;have:=Gf.RR (xsL n z) (Gf.bV v W) (a7 W) (Gf.aV (xsL n z)) _ C L (32-z.length) (by rw[hdl];exact h.hn) (fun _=>rfl) (fun j hj=>by
   rw[a7,aT _ _ _ hj,Gf.uV _ _ _ hvw,h.code j hj,UInt8.zero_xor]) (by rw[hel];omega) (fun i hi=>by
   rw[zP _ _ _ (by rw[hfl];exact hi),qL,ix,Nat.add_sub_cancel,hel]) qO hrun hlst hrf.len
 exact⟨qO,this.2⟩
theorem Chg.len{v W C:BL}{n L:Nat}{z:List Int}{H:List Nat}(h:Chg v W n z H)(hrf:RF (dC (a7 W) (Gf.aV (xsL n z))) C L):(tr C).length=L+1:=by
 obtain⟨h1,h2⟩:=h.reg hrf;have e:tr C=Gf.aV (sQ v W n z):=by
  rw[<-Gf.EL (sQ v W n z) (Gf.VP _ _)];exact ed h2
 have h3:=hrf.len;have h4:=iR C;have hvw:v.length=W.length:=by rw[h.lv,h.lw]
 have hdl:(Gf.bV v W).length=n:=by simp[Gf.bV,h.lv,h.lw]
 have hge:=Gf.N0 (xsL n z) (Gf.bV v W) (by rw[hdl];exact h.hn) H h.nd fun p hp=>by
  obtain⟨h1,h2,h3⟩:=h.mem p hp;rw[hdl];exact⟨h1,(sP hvw p).2 h2,fun hm=>h3 ((kZ h.hn h1 h.ok.1).1 hm)⟩
 have h5:(tr C).length=(sQ v W n z).length+1:=by rw[e,Gf.az]
 have h6:(sQ v W n z).length=(Gf.oth (xsL n z) (Gf.bV v W)).length:=by simp[sQ]
 omega
theorem Chg.root{v W C:BL}{n L:Nat}{z:List Int}{H:List Nat}(h:Chg v W n z H)(hrf:RF (dC (a7 W) (Gf.aV (xsL n z))) C L)(p:Nat)(hp:p<n)(y:UInt8)(hy:Gf.gm (Gf.al (n-1-p)) y=1):
  evL (dc C n z) y=0↔((p:Int)∈z∨p∈H):=by
 obtain⟨h1,h2⟩:=h.reg hrf;have hvw:v.length=W.length:=by rw[h.lv,h.lw]
 have hdl:(Gf.bV v W).length=n:=by simp[Gf.bV,h.lv,h.lw]
 have hz:∀ys:BL,evL (Gf.aV ys) y=0↔Gf.al (n-1-p)∈ys:=fun ys=>by
  rw[<-Gf.pI,Gf.NY _ _ _ hy (by rw[Gf.az];omega)];rw[Gf.bS _ _ (Gf.T8 (Gf.lM _) _)]
 have e1:evL (tr C) y=evL (Gf.aV (sQ v W n z)) y:=by
  rw[yi];exact iZ h2 y
 unfold dc;rw[yi,oh,e1];have e2:Gf.gm (evL (Gf.aV (sQ v W n z)) y) (evL (Gf.aV (xsL n z)) y)=0↔evL (Gf.aV (sQ v W n z)) y=0∨evL (Gf.aV (xsL n z)) y=0:=by
  constructor
  ·intro h;by_cases h0:evL (Gf.aV (sQ v W n z)) y=0
   ·exact .inl h0
   ·exact .inr ((Gf.bS _ _ h0).1 h)
  ·rintro(h|h)
   ·rw[h,Gf.aK]
   ·rw[h,Gf.aO]
 rw[e2,hz,hz,kZ h.hn hp h.ok.1];have e3:Gf.al (n-1-p)∈sQ v W n z↔co W p≠co v p/\(p:Int) ∉ z:=by
  have:=Gf.zK (xsL n z) (Gf.bV v W) (by rw[hdl];exact h.hn) p (by rw[hdl];exact hp);rw[hdl]at this;unfold sQ;rw[this,sP hvw,kZ h.hn hp h.ok.1]
 rw[e3];constructor
 ·rintro(⟨h3,h4⟩|h3)
  ·exact .inr (h.all p hp h3 h4)
  ·exact .inl h3
 ·rintro(h3|h3)
  ·exact .inr h3
  ·exact .inl (h.mem p h3).2
