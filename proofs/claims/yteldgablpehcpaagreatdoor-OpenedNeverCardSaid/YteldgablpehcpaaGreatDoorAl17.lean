/- Al17 -/
import Derived.Test.YteldgablpehcpaaGreatDoorCi17
import Derived.Test.YteldgablpehcpaaGreatDoorBt
import Derived.Test.YteldgablpehcpaaGreatDoorRgs
set_option linter.unusedVariables false
set_option linter.unusedSimpArgs false
set_option maxRecDepth 100000
set_option maxHeartbeats 8000000
namespace Go.Proofs.YteldgablpehcpaaGreatDoor
open Go.RowKit
theorem Da.Op17.back{K:List UInt8}{N:Int}{p:Pm15}{S:List (List UInt8)}{R:Nat}{F':List UInt8}{g:Nat}{E C:List Int}(h:Da.Op17 K N p S R F' g E C)(F:List UInt8)(hF:(F.length:Int)=p.sz)(h0:Da.a6 p (Da.fS K N p S.length)=0)
  (hw:∀i,i<(shp F.length).length->wtG (Da.jK K N p S) (fl F) (shp F.length) i<=32):
  R=0/\F'=F/\g=Da.lD (Da.aQ K N 3) S (Da.n16 p)/\E=erG (Da.jK K N p S) (shp F.length) (shp F.length).length/\C=chG (Da.jK K N p S) (shp F.length) (Pd (jN F) (shp F.length)) (shp F.length).length:=by
 have hR:=Da.cN (Da.iq h0).1;have hs:p.sz.toNat=F.length:=qO;have hl:F.length<=2000:=by have:=hR.s1;omega
 obtain⟨l,hlq⟩:∃l,shp F.length=l:=⟨_,rfl⟩;have hmem:∀k∈l,1<=k/\k<=223:=by rw[<-hlq];exact jF (nbk F.length) (fE _) (eM _ hl)
 have hall:fl F=eW (jN F) 0 l:=by rw[<-hlq];rfl
 have hbl:(Da.jK K N p S).length=bc l+32*l.length:=by
  rw[Da.oM];unfold Da.ae gi;rw[hs,<-hlq,db];rfl
 rw[hlq]at hw⊢;have hM:=TL (jN F) l (Da.jK K N p S) hmem hbl (by rw[<-hall];exact hw);have hfp:=Pf F l hlq;unfold Da.Op17 at h;rw[hs,hlq]at h;rcases h with ⟨h1,_⟩|⟨_,h1,_⟩|⟨_,V,h1,h2,h3,h4,h5,h6,h7⟩
 ·exact absurd h0 h1
 ·exact absurd (by rw[hfp];exact Ph F) (h1 _ hM)
 ·have hu:=h1.uniq hM;refine⟨h3,?_,h5,h6,?_⟩
  ·rw[h4,hu.1,hfp,Pg]
  ·rw[h7,hu.2]
theorem Da.Kf(k:List UInt8)(q:Nat)(hq:q<512)(b:List UInt8)(h8:b.length=8):Da.fi k (q:Int) (Da.dZ k (q:Int) b)=true:=by
 have hl:=Da.oJ k (q:Int) b;have ht:(Da.dZ k (q:Int) b).take 8=b:=by
  unfold Da.dZ;rw[List.take_append_of_le_length qO,List.take_of_length_le qO]
 unfold Da.fi;rw[ht];simp only[Bool.and_eq_true,decide_eq_true_eq];exact⟨qO,qO,qO,trivial⟩
theorem Da.Kg(K:List UInt8)(N:Int)(F:List UInt8)(p:Pm15)(S:List (List UInt8))(hR:Da.Right15 p)(hF:(F.length:Int)=p.sz)(i:Nat)(hi:i<Da.ae p.sz)(hs:bi S (Da.ez K N p i)=bi (Da.dx K N F p) (Da.ez K N p i)):bi (Da.jK K N p S) i=bi (fl F) i:=by
 have hn:=Da.iy hR;have hin:i<Da.n16 p:=by unfold Da.n16;omega
 have hlt:=Da.pK (K:=K) (N:=N) (p:=p) qO hin;have hl:(fl F).length=Da.ae p.sz:=by
  rw[kQ];unfold Da.ae;rw[show p.sz.toNat=F.length by omega]
 have hok:Da.lB (Da.aQ K N 3) S (Da.ez K N p i)=true:=by
  unfold Da.lB;rw[hs];rw[Da.oL K N F p qO _ hlt];exact Da.Kf _ _ qO _ (Da.cX _ _ _ _ (by have:=Da.rV (K:=K) (N:=N) (p:=p) qO hlt;omega))
 have h8:=dy F i qO;rw[Da.S7 K N p S qO i hi,if_pos hok,hs,Da.oL K N F p qO _ hlt,Da.uA qO hin];have hrl:=Da.cX K N F i qO;unfold Da.dZ;rw[List.take_append_of_le_length qO,List.take_of_length_le qO];unfold Da.eh Da.mk1;rw[if_pos qO,if_pos (Da.Jv _ i h8 qO),Da.xh _ _ _ h8]
theorem Pm{a B:List (List UInt8)}(l:List Nat)(g:Nat)(hg:g<l.length)(hB:B.length=bc l+32*l.length)(h8:∀i,i<B.length->(bi B i).length=8)(h:∀i,i<B.length->bi a i=bi B i):wtG a B l g=0:=by
 unfold wtG;refine Cg _ fun i hi=>?_
 have:=i6 l g hg;rw[h _ qO];unfold cost;rw[if_pos (h8 _ qO),if_pos rfl]
def pR:Pm15:=⟨2,0,1,1,1,0⟩
def lG:List UInt8:=[104,105]
theorem Hj:pR.ok:=by constructor<;>(unfold bG pR;dsimp only;omega)
theorem Pn:Da.bj (List.replicate 16 0) 0 lG pR=0:=by decide+kernel
theorem FZ:Da.n16 pR=33:=by decide+kernel
theorem sg:Da.aU pR=0:=by decide+kernel
theorem TQ:Da.a6 pR (Da.fS (List.replicate 16 0) 0 pR 33)=0:=by decide+kernel
theorem F0(w:World):(Instr.build 24 #[(0,.int .i64 2),(2,.int .i64 1),(3,.int .i64 1),(4,.int .i64 1)]).run Tryz.prog w=.ok (.agg (pmA pR)) w:=qK
theorem Kh{R:Nat}{F:List UInt8}{g:Nat}{E C:List Int}(h:Da.Op17 (List.replicate 16 0) 0 pR (Da.dx (List.replicate 16 0) 0 lG pR) R F g E C):R=0/\F=lG:=by
 have hR:=Da.cN sg;have hl:(fl lG).length=Da.ae pR.sz:=by rw[kQ];rfl
 have:=h.back lG rfl (by rw[Da.fe,FZ];exact TQ) fun i hi=>by
  rw[Pm (B:=fl lG) (shp lG.length) i hi (jG _ _ _) (fun j hj=>dy lG j hj) (fun j hj=>Da.Kg _ _ lG pR _ hR rfl j qO rfl)];omega
 exact⟨this.1,this.2.1⟩
def aBB(S:List (List UInt8))(n:Nat)(w:World)(iv:Value)(wr:World):Prop:=∃k:Nat,k<=n/\iv=.int .i64 (k:Int)/\(∀j,j<k->(bi S j).length<=60)/\wr=w
theorem yW(S:List (List UInt8))(n c:Nat)(o:Option Addr)(w:World)(hS:RbIs w o S c)(hn:S.length=n):
  Calls Tryz.prog 9 #[.slice o n c] w fun e w'=>∃b,e=.returned (.bool b)/\(b=true->kg S)/\w'=w:=by
 have h1:=hS.le.1;have h2:=hS.le.2;rw[hn]at h1;unfold maxLen at h2;by_cases h100:100<n
 ·have d1:decide ((n:Int)>100)=true:=decide_eq_true qO;have d2:decide (100<n)=true:=decide_eq_true h100;clear hS hn;go_enter Tryz.func9,Tryz.ntmps9
  go_wp2_with fail;go_ret;exact⟨false,rfl,(fun h=>by cases h),rfl⟩
 have d1:decide ((n:Int)>100)=false:=decide_eq_false qO;have d2:decide (100<n)=false:=decide_eq_false h100;have HS:=Lh hS;have HN:=Lh hn;clear hS hn;go_enter Tryz.func9,Tryz.ntmps9
 go_wp2_with fail;go_loopw [10] (fun iv wr=>aBB S n w iv wr) (fun iv _=>n-(intOf iv).toNat)
 case atStart=>exact⟨0,Nat.zero_le _,rfl,fun j hj=>qO,rfl⟩
 case round=>
  obtain⟨k,hk,rfl,hall,rfl⟩:=hrel;by_cases hlt:k<n
  ·have hk0:(0:Int)<=(k:Int):=qO;have hk1:(k:Int)<(n:Int):=qO;obtain⟨b1,off1,p,q,rfl,_,hc1,hrow⟩:=HS.out.cell k (by have:=HN.out;omega);have hq1:=hrow.le;have hq2:=hrow.cap;simp at hq1;unfold maxLen at hq2;obtain⟨L,hL⟩:∃L,(bi S k).length=L:=⟨_,rfl⟩;rw[hL]at hc1 hq1;have HLL:=Lh hL;have HALL:=Lh hall;clear hrow hL hall;by_cases h60:60<L
   ·have d3:decide ((L:Int)>60)=true:=decide_eq_true qO;have d4:decide (60<L)=true:=decide_eq_true h60;go_wp2_with fail;go_ret;exact⟨false,rfl,(fun h=>by cases h),rfl⟩
   ·have d3:decide ((L:Int)>60)=false:=decide_eq_false qO;have d4:decide (60<L)=false:=decide_eq_false h60;go_wp2_with fail;go_roundw
    case rel=>exact⟨k+1,qO,by go_num,fun j hj=>by
     by_cases e:j=k
     ·rw[e,HLL.out];omega
     ·exact HALL.out j qO,rfl⟩
    case measure=>simp[intOf];omega
  ·obtain rfl:k=n:=qO;have HALL:=Lh hall;clear hall;go_wp2_with fail;go_ret;exact⟨true,rfl,fun _=>⟨by rw[HN.out];omega,fun b hb=>by
    obtain⟨i,hi,e⟩:=List.getElem_of_mem hb;have:=HALL.out i (by rw[<-HN.out];exact hi);unfold bi at this;rw[List.getD_eq_getElem?_getD,List.getElem?_eq_getElem hi,e]at this;exact this⟩,rfl⟩
end Go.Proofs.YteldgablpehcpaaGreatDoor
