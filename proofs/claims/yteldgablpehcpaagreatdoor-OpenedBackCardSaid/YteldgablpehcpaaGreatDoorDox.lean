/- Dox -/
import Derived.Test.YteldgablpehcpaaGreatDoorRep
import Derived.OwnWalk
set_option linter.unusedVariables false
set_option linter.unusedSimpArgs false
set_option maxRecDepth 100000
set_option maxHeartbeats 8000000
namespace Go.Proofs.YteldgablpehcpaaGreatDoor
open Go.RowKit
def trn(a k i:Nat):Nat:=if i=a then k else if i=k then a else i
theorem Ru(m:Nat->Nat->UInt8)(a k i j:Nat):Gf.swp m a k i j=m (trn a k i) j:=by
 unfold Gf.swp trn;split
 ·rfl
 ·split<;>rfl
theorem zV{a k i R:Nat}(ha:a<R)(hk:k<R)(hi:i<R):trn a k i<R:=by
 unfold trn;split
 ·exact hk
 ·split
  ·exact ha
  ·exact hi
theorem Gt(a k i:Nat):trn a k (trn a k i)=i:=by
 unfold trn;by_cases h1:i=a
 ·subst h1;rw[if_pos rfl];by_cases h2:k=i
  ·rw[if_pos h2,h2]
  ·rw[if_neg h2,if_pos rfl]
 ·rw[if_neg h1];by_cases h2:i=k
  ·subst h2;rw[if_pos rfl,if_pos rfl]
  ·rw[if_neg h2,if_neg h1,if_neg h2]
theorem Mat.swap{W:World}{B gO capO N R:Nat}{Gb Gc:Nat->Nat}{m:Nat->Nat->UInt8}(h:Mat W B gO capO N R Gb Gc m)(a k:Nat)(ha:a<R)(hk:k<R):
  Mat ((W.setCell ⟨gO,a,none⟩ (.slice (some ⟨Gb k,0,none⟩) N (Gc k))).setCell ⟨gO,k,none⟩ (.slice (some ⟨Gb a,0,none⟩) N (Gc a))) B gO capO N R (fun i=>Gb (trn a k i)) (fun i=>Gc (trn a k i)) (Gf.swp m a k)/\
   Only gO W ((W.setCell ⟨gO,a,none⟩ (.slice (some ⟨Gb k,0,none⟩) N (Gc k))).setCell ⟨gO,k,none⟩ (.slice (some ⟨Gb a,0,none⟩) N (Gc a))):=by
 have h1:=World.ownsRow.stored h.outer a (.slice (some ⟨Gb k,0,none⟩) N (Gc k));have h2:=World.ownsRow.stored h1.1 k (.slice (some ⟨Gb a,0,none⟩) N (Gc a));have ho:Only gO W ((W.setCell ⟨gO,a,none⟩ (.slice (some ⟨Gb k,0,none⟩) N (Gc k))).setCell ⟨gO,k,none⟩ (.slice (some ⟨Gb a,0,none⟩) N (Gc a))):=Only.trans h1.2 h2.2;refine⟨⟨?_,fun i hi=>?_,fun i j hi hj e=>?_⟩,ho⟩
 ·have e:(((List.range R).map fun i=>(.slice (some ⟨Gb i,0,none⟩) N (Gc i):Value)).set a (.slice (some ⟨Gb k,0,none⟩) N (Gc k))).set k (.slice (some ⟨Gb a,0,none⟩) N (Gc a))=(List.range R).map fun i=>(.slice (some ⟨Gb (trn a k i),0,none⟩) N (Gc (trn a k i)):Value):=by
   refine List.ext_getElem qS fun i hi1 hi2=>?_
   simp only[List.getElem_set,List.getElem_map,List.getElem_range];unfold trn;by_cases e1:k=i
   ·subst e1;rw[if_pos rfl];by_cases e2:k=a
    ·subst e2;rw[if_pos rfl]
    ·rw[if_neg e2,if_pos rfl]
   ·rw[if_neg e1];by_cases e2:a=i
    ·subst e2;rw[if_pos rfl,if_pos rfl]
    ·rw[if_neg e2,if_neg (fun h=>e2 h.symm),if_neg (fun h=>e1 h.symm)]
  rw[<-e];exact h2.1
 ·have e:tab (Gf.swp m a k i) N=tab (m (trn a k i)) N:=by
   congr 1
   funext j
   exact Ru m a k i j
  rw[e];have hr:=h.row (trn a k i) (zV ha hk hi);exact⟨World.ownsRow.kept hr.1 ho (.inr fun e3=>h.ne _ (zV ha hk hi) (Option.some.inj (show some (Gb (trn a k i))=some gO from e3)).symm),hr.2⟩
 ·have:=h.apart _ _ (zV ha hk hi) (zV ha hk hj) e;have h3:=congrArg (trn a k) this;rwa[Gt,Gt]at h3
def lk(P:List Nat)(x:BL)(k:Nat):List (Nat×UInt8):=(List.range k).map fun i=>(P.getD i 0,co x i)
