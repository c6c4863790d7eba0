/- Bt -/
import Derived.Test.YteldgablpehcpaaGreatDoorRbd
set_option linter.unusedVariables false
set_option linter.unusedSimpArgs false
set_option maxRecDepth 100000
set_option maxHeartbeats 8000000
namespace Go.Proofs.YteldgablpehcpaaGreatDoor
open Go.RowKit
def cost(x y:BL):Nat:=if x.length=8 then(if x=y then 0 else 2)else 1
def wtN(f:Nat->Nat):Nat->Nat
 |0=>0
 |k+1=>wtN f k+f k
theorem sf{f g:Nat->Nat}(m:Nat)(h:∀i,i<m->f i=g i):wtN f m=wtN g m:=by
 induction m with
 |zero=>rfl
 |succ m ih=>unfold wtN;rw[ih (fun i hi=>h i qO),h m qO]
theorem TJ{f g:Nat->Nat}(m p c:Nat)(hp:p<m)(h:∀i,i<m->i≠p->g i=f i)(hc:g p<=f p+c):wtN g m<=wtN f m+c:=by
 induction m with
 |zero=>omega
 |succ m ih=>
  unfold wtN;by_cases e:p=m
  ·subst e;rw[sf p (fun i hi=>h i qO qO)];omega
  ·have:=ih qO (fun i hi=>h i qO);rw[h m qO (fun e2=>e e2.symm)];omega
theorem Cg{f:Nat->Nat}(m:Nat)(h:∀i,i<m->f i=0):wtN f m=0:=by
 induction m with
 |zero=>rfl
 |succ m ih=>unfold wtN;rw[ih (fun i hi=>h i qO),h m qO]
def Ch(G OG:L8)(j n:Nat):List Nat:=(List.range n).filter fun i=>decide ((bi G i).length=8)&&decide (po (bi G i) j≠po (bi OG i) j)
theorem WN(G OG:L8)(j n:Nat):2*(Ch G OG j n).length+(gnL G n).length<=wtN (fun i=>cost (bi G i) (bi OG i)) n:=by
 induction n with
 |zero=>simp[Ch,gnL,wtN]
 |succ n ih=>
  have e:Ch G OG j (n+1)=Ch G OG j n++(if(decide ((bi G n).length=8)&&decide (po (bi G n) j≠po (bi OG n) j))=true then[n]else[]):=by
   unfold Ch;rw[List.range_succ,List.filter_append];congr 1
   rw[List.filter_cons];split<;>rfl
  rw[e,List.length_append];unfold gnL wtN;unfold cost at ih⊢;by_cases h8:(bi G n).length=8
  ·rw[if_pos h8,if_pos h8];by_cases hq:bi G n=bi OG n
   ·rw[if_pos hq,hq];simp;omega
   ·rw[if_neg hq];split
    ·simp only[List.length_singleton];omega
    ·simp only[List.length_nil];omega
  ·rw[if_neg h8,if_neg h8];simp[h8];omega
theorem Ci(p:BL)(a k:Nat)(G:L8)(hk:1<=k/\k<=223)(hG:G.length=k+32)(hw:wtN (fun i=>cost (bi G i) (bi (jl p a k) i)) (k+32)<=32):Mnd G (k+32) (fun j=>bu (jl p a k) j):=fun j hj=>by
 have hf:=WN G (jl p a k) j (k+32);have hco:∀i,i<k+32->co (bu G j) i=po (bi G i) j:=fun i hi=>mJ _ _ _ qO
 have hcv:∀i,i<k+32->co (bu (jl p a k) j) i=po (bi (jl p a k) i) j:=fun i hi=>mJ _ _ _ (by simp;omega)
 refine⟨Ch G (jl p a k) j (k+32),⟨(Lv p a k j hj).1,qS,by simp[hG],qO,zS G _ qO,?_,?_,?_,qO⟩⟩
 ·exact List.Pairwise.filter _ List.nodup_range
 ·intro q hq;unfold Ch at hq;rw[List.mem_filter]at hq;obtain⟨h1,h2⟩:=hq;have h1:q<k+32:=by simpa using h1
  simp only[Bool.and_eq_true,decide_eq_true_eq]at h2;refine⟨h1,by rw[hco q h1,hcv q h1];exact h2.2,fun hm=>?_⟩;obtain⟨i,e,_,h3⟩:=(tj G _ _).1 hm;have:q=i:=qO;subst this;exact h3 h2.1
 ·intro q h1 h2 h3;unfold Ch;rw[List.mem_filter];refine⟨by simpa using h1,?_⟩;simp only[Bool.and_eq_true,decide_eq_true_eq];rw[hco q h1,hcv q h1]at h2;refine⟨?_,h2⟩;by_cases h8:(bi G q).length=8
  ·exact h8
  ·exact absurd ((tj G _ _).2 ⟨q,rfl,h1,h8⟩) h3
theorem TK(p:BL)(l:List Nat)(g i:Nat)(hg:g<l.length)(hi:i<szG l g+32):bi (eW p 0 l) (atG l g+i)=bi (jl p (bc (l.take g)) (szG l g)) i:=by
 have e:l=l.take g++(szG l g::l.drop (g+1)):=by
  conv=>lhs;rw[<-List.take_append_drop g l]
  rw[List.drop_eq_getElem_cons hg];simp[szG,List.getD_eq_getElem?_getD,List.getElem?_eq_getElem hg]
 have hl:(eW p 0 (l.take g)).length=atG l g:=by
  rw[jG,List.length_take,Nat.min_eq_left qO];rfl
 have e2:eW p 0 l=eW p 0 (l.take g)++(jl p (bc (l.take g)) (szG l g)++eW p (bc (l.take g)+szG l g) (l.drop (g+1))):=by
  conv=>lhs;rw[e]
  rw[Ad,Nat.zero_add];rfl
 rw[e2,ui,hl,if_neg qO,ui,sq,if_pos qO];congr 1
 omega
def wtG(a B:L8)(l:List Nat)(g:Nat):Nat:=wtN (fun i=>cost (bi a (atG l g+i)) (bi B (atG l g+i))) (szG l g+32)
def Pd(p:BL)(l:List Nat)(g j:Nat):BL:=bu (jl p (bc (l.take g)) (szG l g)) j
theorem TL(p:BL)(l:List Nat)(a:L8)(hm:∀k∈l,1<=k/\k<=223)(hl:a.length=bc l+32*l.length)(hw:∀g,g<l.length->wtG a (eW p 0 l) l g<=32):MndAll a l (Pd p l) l.length:=fun g hg=>by
 have hsz:szG l g∈l:=by
  unfold szG;rw[List.getD_eq_getElem?_getD,List.getElem?_eq_getElem hg];exact List.getElem_mem hg
 refine Ci p _ _ _ (hm _ hsz) (Be _ _ _ hg hl) ?_;have h1:=hw g hg;unfold wtG at h1;rw[sf (f:=fun i=>cost (bi (dD a l g) i) (bi (jl p (bc (l.take g)) (szG l g)) i)) (g:=fun i=>cost (bi a (atG l g+i)) (bi (eW p 0 l) (atG l g+i))) _ (fun i hi=>by
  rw[Re _ _ _ _ hi,TK p l g i hg hi])]
 exact h1
theorem TM(p:BL)(l:List Nat)(g:Nat)(hg:g<=l.length)(hp:8*bc l<=p.length):af l (Pd p l) g=p.take (8*bc (l.take g)):=by
 have hle:∀k,bc (l.take k)<=bc l:=fun k=>by
  have:=nf (l.take k) (l.drop k);rw[List.take_append_drop]at this;omega
 induction g with
 |zero=>simp[af]
 |succ g ih=>
  have h1:=ry l g qO;have h2:=hle (g+1);unfold af;rw[ih qO];refine aN (by simp;omega) fun q hq=>?_
  have hq:q<8*bc (l.take (g+1)):=by
   simp at hq;omega
  have htk:∀(m q:Nat),q<m->co (p.take m) q=co p q:=fun m q h=>by simp[co,List.getD_eq_getElem?_getD,List.getElem?_take,h]
  rw[htk _ q hq,nX,List.length_take,Nat.min_eq_left qO];split
  ·rename_i h;rw[htk _ q h]
  ·rename_i h;unfold prt;rw[aT _ _ _ qO];unfold Pd;rw[mJ _ _ _ (by simp;omega)];unfold jl;rw[ui,bh,if_pos qO,uj _ _ _ _ qO];unfold po;rw[if_pos qS,uh _ _ _ (Nat.mod_lt _ qO)];congr 1
   omega
theorem Pf(f:BL)(l:List Nat)(hl:shp f.length=l):af l (Pd (jN f) l) l.length=jN f:=by
 have h:=db f.length;rw[hl]at h;rw[TM _ _ _ qN (by simp[h]),List.take_length,List.take_of_length_le (by simp[h])]
theorem Pg(f:BL):(jN f).take f.length=f:=by simp[jN]
theorem Ph(f:BL):j3 ((jN f).drop f.length):=fun i hi=>by
 have e:(jN f).drop f.length=List.replicate (8*nbk f.length-f.length) 0:=by simp[jN]
 rw[e]at hi⊢;have hi:i<8*nbk f.length-f.length:=by simpa using hi
 simp[co,List.getD_eq_getElem?_getD,hi]
section
open Go.ChangeShapes Go.WideShapes Go.ChangeAt
structure HitT where
 p:Int
 g:Bool
 y:BL
instance:Inhabited HitT:=⟨⟨0,false,[]⟩⟩
end
def btL(m:Nat->BL)(e:Nat->Bool)(N:Nat):L8:=(List.range N).map fun i=>if e i then[]else m i
theorem wc(m:Nat->BL)(e:Nat->Bool)(N i:Nat)(h:i<N):bi (btL m e N) i=if e i then[]else m i:=kt _ _ _ h
theorem yV(l:List Nat)(k d:Nat)(h:k+d<=l.length):atG l k<=atG l (k+d):=by
 induction d with
 |zero=>exact Nat.le_refl _
 |succ d ih=>
  have h1:=eN l (k+d) qO;have h2:=ih qO;have h3:atG l (k+(d+1))=atG l (k+d+1):=rfl;omega
structure Pl(B:L8)(l:List Nat)(N:Nat)(m:Nat->BL)(e s:Nat->Bool)(L:Nat->Nat)(k:Nat):Prop where
 same:∀i,i<N->s i=false->e i=false/\m i=bi B i
 wt:∀g,g<l.length->wtG (btL m e N) B l g<=L g
 bd:∀g,g<l.length->L g<=2*k
theorem Pl.start(B:L8)(l:List Nat)(N:Nat)(hN:N=bc l+32*l.length)(h8:∀i,i<N->(bi B i).length=8):Pl B l N (bi B) (fun _=>false) (fun _=>false) (fun _=>0) 0:=by
 refine⟨fun i _ _=>⟨rfl,rfl⟩,fun g hg=>?_,fun g _=>qO⟩;unfold wtG;rw[Cg _ (fun i hi=>?_)]
 ·omega
 ·have:=i6 l g hg;rw[wc _ _ _ _ qO];unfold cost;simp[h8 _ (show atG l g+i<N by omega)]
theorem Pl.later{B:L8}{l:List Nat}{N:Nat}{m:Nat->BL}{e s:Nat->Bool}{L:Nat->Nat}{k:Nat}(h:Pl B l N m e s L k):Pl B l N m e s L (k+1):=⟨h.same,h.wt,fun g hg=>by have:=h.bd g hg;omega⟩
theorem Pl.hit{B:L8}{l:List Nat}{N:Nat}{m m':Nat->BL}{e e' s:Nat->Bool}{L:Nat->Nat}{k g a p c:Nat}(h:Pl B l N m e s L k)(hN:N=bc l+32*l.length)(hg:g<l.length)(ha:a<szG l g+32)(hp:atG l g+a=p)(h8:(bi B p).length=8)(hs:s p=false)
  (hm:∀i,i≠p->m' i=m i) (he:∀i,i≠p->e' i=e i) (hc:cost (if e' p then[]else m' p) (bi B p)<=c) (hc2:c<=2):Pl B l N m' e' (fun i=>if i=p then true else s i) (fun i=>if i=g then L i+c else L i) (k+1):=by
 refine⟨fun i hi hsi=>?_,fun q hq=>?_,fun q hq=>?_⟩
 ·by_cases x:i=p
  ·rw[if_pos x]at hsi;cases hsi
  ·rw[if_neg x]at hsi;rw[he i x,hm i x];exact h.same i hi hsi
 ·have hle:=i6 l q hq;have hle2:=i6 l g hg;have h1:=h.wt q hq;have hoth:∀i,i<szG l q+32->atG l q+i≠p->cost (bi (btL m' e' N) (atG l q+i)) (bi B (atG l q+i))=cost (bi (btL m e N) (atG l q+i)) (bi B (atG l q+i)):=fun i hi hne=>by
   rw[wc _ _ _ _ qO,wc _ _ _ _ qO,hm _ hne,he _ hne]
  by_cases x:q=g
  ·subst x;rw[if_pos rfl];have h2:wtG (btL m' e' N) B l q<=wtG (btL m e N) B l q+c:=by
    unfold wtG;refine TJ _ a c ha (fun i hi hne=>hoth i hi qO) ?_;rw[hp,wc _ _ _ _ qO];omega
   omega
  ·rw[if_neg x];have h2:wtG (btL m' e' N) B l q=wtG (btL m e N) B l q:=by
    unfold wtG;refine sf _ fun i hi=>hoth i hi fun y=>x ?_
    rcases Nat.lt_trichotomy q g with z|z|z
    ·have:=yV l (q+1) (g-(q+1)) qO;rw[show q+1+(g-(q+1))=g by omega]at this;have:=eN l q hq;omega
    ·exact z
    ·have:=yV l (g+1) (q-(g+1)) qO;rw[show g+1+(q-(g+1))=q by omega]at this;have:=eN l g hg;omega
   omega
 ·have:=h.bd q hq;split<;>omega
