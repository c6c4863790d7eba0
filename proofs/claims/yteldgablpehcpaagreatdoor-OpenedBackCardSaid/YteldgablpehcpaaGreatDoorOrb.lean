/- Orb -/
import Derived.Test.YteldgablpehcpaaGreatDoorGn
import Derived.Deep.Slices
set_option linter.unusedVariables false
set_option linter.unusedSimpArgs false
set_option maxRecDepth 100000
set_option maxHeartbeats 8000000
namespace Go.Proofs.YteldgablpehcpaaGreatDoor
open Go.ChangeShapes Go.WideShapes Go.ChangeAt Go.RowKit
theorem open_rowsB{H:Type}{enc:TypeId×Value->H}{P:Program}{W:World}{r:Reach}{base:Nat}{t e e8:TypeId}{v:Value}{d:DataW H}{p:List MemPlace}
  (ht:P.underlying t=some (.slice e)) (he:P.underlying e=some (.slice e8)) (ce:P.cellsOf e=1) (u8:P.underlying e8=some (.int .u8)) (c8:P.cellsOf e8=1) (hval:Value.okWide P W r base t v)
  (h:DataW.Trod enc P W 0 (fun _=>true) true t v d p) (hlt:∀x∈p,x.block<W.heap.size):
  ∃(o:Option Addr)(c:Nat)(bs:L8),v=.slice o bs.length c/\RbIs W o bs c:=by
 obtain⟨a0,len,cap,rfl⟩:=okWide_slice ht hval;obtain⟨fuel,hf⟩:=h;rcases Go.Deep.open_slice1 ht ce hf with ⟨hcs,hx⟩|⟨a,len',cap',m,n,V,D,Pl,hcs,_,hl,hm,hmm,hx,hi⟩
 ·simp[Value.cells]at hcs;obtain⟨rfl,rfl,rfl⟩:=hcs;exact⟨none,0,[],rfl,RbIs.empty _ _ (Nat.zero_le _) (fun _=>rfl)⟩
 ·simp[Value.cells]at hcs;obtain⟨rfl,rfl,rfl⟩:=hcs;simp only[if_true]at hmm;subst hmm;simp only[Prod.mk.injEq]at hx;obtain⟨rfl,rfl⟩:=hx;obtain⟨b,off,spot⟩:=a;have each:∀i,i<m->∃z:BL,spot=none/\W.cell? ⟨b,off+i,none⟩=some (V i)/\RowV z (V i) W:=by
   intro i hic;obtain⟨h1,h2⟩:=hi i hic;have hsp:spot=none:=by
    have:=(hi 0 qO).1;simpa[Addr.add]using World.cell?_spot this
   subst hsp;rw[add_plain]at h1;obtain⟨o,c,z,hz,hr⟩:=jA he u8 c8 h2 (fun x hx=>hlt x (List.mem_append_right _ (List.mem_flatMap.2 ⟨i,by simpa using hic,hx⟩)));exact⟨z,rfl,h1,o,c,hz,hr⟩
  obtain⟨q,hq⟩:=Go.Deep.choose_lt each;refine⟨some ⟨b,off,spot⟩,m,(List.range len).map q,qS,(List.range len).map V,⟨by simpa using hl,hm,(fun h=>by cases h),fun h0=>?_⟩,⟨qS,fun i x hx=>?_⟩⟩
  ·have h1:0<len:=by simpa using h0
   have hs:=(hq 0 qO).1;subst hs;refine⟨b,off,rfl,hlt (.cell b off) (List.mem_append_left _ (MemPlace.mem_row.2 ⟨0,qO,qS⟩)),fun i x hx=>?_⟩;have hil:i<len:=by
    have:=(List.getElem?_eq_some_iff.1 hx).1;simpa using this
   simp[hil]at hx;subst hx;exact(hq i qO).2.1
  ·have hil:i<len:=by
    have:=(List.getElem?_eq_some_iff.1 hx).1;simpa using this
   simp[hil]at hx;subst hx;have e:bi ((List.range len).map q) i=q i:=kt _ _ _ hil;rw[e];exact(hq i qO).2.2
