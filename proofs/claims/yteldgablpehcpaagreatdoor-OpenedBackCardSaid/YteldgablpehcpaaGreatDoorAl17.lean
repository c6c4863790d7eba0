/- Al17 -/
import Derived.Test.YteldgablpehcpaaGreatDoorCi17
import Derived.Test.YteldgablpehcpaaGreatDoorBt
import Derived.Test.YteldgablpehcpaaGreatDoorRgs
set_option linter.unusedVariables false
set_option linter.unusedSimpArgs false
set_option maxRecDepth 100000
set_option maxHeartbeats 8000000
namespace Go.Proofs.YteldgablpehcpaaGreatDoor
open Go.RowKit
theorem Da.Op17.back{K:BL}{N:Int}{p:Pm15}{S:L8}{R:Nat}{F':BL}{g:Nat}{E C:List Int}(h:Da.Op17 K N p S R F' g E C)(F:BL)(hF:(F.length:Int)=p.sz)(h0:Da.a6 p (Da.fS K N p S.length)=0)
  (hw:∀i,i<(shp F.length).length->wtG (Da.jK K N p S) (fl F) (shp F.length) i<=32):
  R=0/\F'=F/\g=Da.lD (Da.aQ K N 3) S (Da.n16 p)/\E=erG (Da.jK K N p S) (shp F.length) (shp F.length).length/\C=chG (Da.jK K N p S) (shp F.length) (Pd (jN F) (shp F.length)) (shp F.length).length:=by
 have hR:=Da.cN (Da.iq h0).1;have hs:p.sz.toNat=F.length:=qO;have hl:F.length<=2000:=by have:=hR.s1;omega
 obtain⟨l,hlq⟩:=qM (shp F.length);have hmem:∀k∈l,1<=k/\k<=223:=by rw[<-hlq];exact jF (nbk F.length) (fE _) (eM _ hl)
 have hall:fl F=eW (jN F) 0 l:=by rw[<-hlq];rfl
 have hbl:(Da.jK K N p S).length=bc l+32*l.length:=by
  rw[Da.oM];unfold Da.ae gi;rw[hs,<-hlq,db];rfl
 rw[hlq]at hw⊢;have hM:=TL (jN F) l (Da.jK K N p S) hmem hbl (by rw[<-hall];exact hw);have hfp:=Pf F l hlq;unfold Da.Op17 at h;rw[hs,hlq]at h;rcases h with ⟨h1,_⟩|⟨_,h1,_⟩|⟨_,V,h1,h2,h3,h4,h5,h6,h7⟩
 ·exact absurd h0 h1
 ·exact absurd (by rw[hfp];exact Ph F) (h1 _ hM)
 ·have hu:=h1.uniq hM;refine⟨h3,?_,h5,h6,?_⟩
  ·rw[h4,hu.1,hfp,Pg]
  ·rw[h7,hu.2]
theorem Da.Kf(k:BL)(q:Nat)(hq:q<512)(b:BL)(h8:b.length=8):Da.fi k (q:Int) (Da.dZ k (q:Int) b)=true:=by
 have hl:=Da.oJ k (q:Int) b;have ht:(Da.dZ k (q:Int) b).take 8=b:=by
  unfold Da.dZ;rw[List.take_append_of_le_length qO,List.take_of_length_le qO]
 unfold Da.fi;rw[ht];simp only[Bool.and_eq_true,decide_eq_true_eq];exact⟨qO,qO,qO,trivial⟩
theorem Da.Kg(K:BL)(N:Int)(F:BL)(p:Pm15)(S:L8)(hR:Da.Right15 p)(hF:(F.length:Int)=p.sz)(i:Nat)(hi:i<Da.ae p.sz)(hs:bi S (Da.ez K N p i)=bi (Da.dx K N F p) (Da.ez K N p i)):bi (Da.jK K N p S) i=bi (fl F) i:=by
 have hn:=Da.iy hR;have hin:i<Da.n16 p:=by unfold Da.n16;omega
 have hlt:=Da.pK (K:=K) (N:=N) (p:=p) qO hin;have hl:(fl F).length=Da.ae p.sz:=by
  rw[kQ];unfold Da.ae;rw[show p.sz.toNat=F.length by omega]
 have hok:Da.lB (Da.aQ K N 3) S (Da.ez K N p i)=true:=by
  unfold Da.lB;rw[hs];rw[Da.oL K N F p qO _ hlt];exact Da.Kf _ _ qO _ (Da.cX _ _ _ _ (by have:=Da.rV (K:=K) (N:=N) (p:=p) qO hlt;omega))
 have h8:=dy F i qO;rw[Da.S7 K N p S qO i hi,if_pos hok,hs,Da.oL K N F p qO _ hlt,Da.uA qO hin];have hrl:=Da.cX K N F i qO;unfold Da.dZ;rw[List.take_append_of_le_length qO,List.take_of_length_le qO];unfold Da.eh Da.mk1;rw[if_pos qO,if_pos (Da.Jv _ i h8 qO),Da.xh _ _ _ h8]
theorem Pm{a B:L8}(l:List Nat)(g:Nat)(hg:g<l.length)(hB:B.length=bc l+32*l.length)(h8:∀i,i<B.length->(bi B i).length=8)(h:∀i,i<B.length->bi a i=bi B i):wtG a B l g=0:=by
 unfold wtG;refine Cg _ fun i hi=>?_
 have:=i6 l g hg;rw[h _ qO];unfold cost;rw[if_pos (h8 _ qO),if_pos rfl]
def pR:Pm15:=⟨2,0,1,1,1,0⟩
def lG:BL:=[104,105]
theorem Hj:pR.ok:=by constructor<;>(unfold bG pR;dsimp only;omega)
theorem Pn:Da.bj (List.replicate 16 0) 0 lG pR=0:=by decide+kernel
theorem FZ:Da.n16 pR=33:=by decide+kernel
theorem sg:Da.aU pR=0:=by decide+kernel
theorem TQ:Da.a6 pR (Da.fS (List.replicate 16 0) 0 pR 33)=0:=by decide+kernel
theorem F0(w:World):(Instr.build 24 #[(0,.int .i64 2),(2,.int .i64 1),(3,.int .i64 1),(4,.int .i64 1)]).run Tryz.prog w=.ok (.agg (pmA pR)) w:=qK
theorem Kh{R:Nat}{F:BL}{g:Nat}{E C:List Int}(h:Da.Op17 (List.replicate 16 0) 0 pR (Da.dx (List.replicate 16 0) 0 lG pR) R F g E C):R=0/\F=lG:=by
 have hR:=Da.cN sg;have hl:(fl lG).length=Da.ae pR.sz:=by rw[kQ];rfl
 have:=h.back lG rfl (by rw[Da.fe,FZ];exact TQ) fun i hi=>by
  rw[Pm (B:=fl lG) (shp lG.length) i hi (jG _ _ _) (fun j hj=>dy lG j hj) (fun j hj=>Da.Kg _ _ lG pR _ hR rfl j qO rfl)];omega
 exact⟨this.1,this.2.1⟩
