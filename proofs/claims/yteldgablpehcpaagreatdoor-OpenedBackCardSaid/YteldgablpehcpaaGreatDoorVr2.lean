/- Vr2 -/
import Derived.Test.YteldgablpehcpaaGreatDoorHq
import Derived.ChangeMaps5
import Derived.Lib.LaidTab
set_option linter.unusedVariables false
set_option linter.unusedSimpArgs false
set_option maxRecDepth 100000
set_option maxHeartbeats 8000000
namespace Go.Proofs.YteldgablpehcpaaGreatDoor
open Go.ChangeShapes Go.WideShapes Go.ChangeAt Go.RowKit
def lw(x:UInt32):DataW Unit:=.lit (.int .u32 (x.toNat:Int))
theorem AB{P:Program}{W:World}:∀(L:List (String×DataW Unit))(ps:List MemPlace),DataW.LaidVars P W L ps->∀n d,(n,d)∈L->
  ∃g t cs fuel p,P.globalNamed n=some g/\(P.globals[g]?).map (·.type)=some t/\W.var? P n=some cs/\DataW.trod (fun _=>()) P W 0 (fun _=>true) false fuel t cs.toList=some (d,p)
 |[],ps,h,n,d,hm=>by cases hm
 |(n',d')::L,ps,h,n,d,hm=>by
  obtain⟨g,t,cs,fu,p,q,h1,h2,h3,h4,hrest,rfl⟩:=h;cases List.mem_cons.1 hm with
  |inl e=>cases e;exact⟨g,t,cs,fu,p,h1,h2,h3,h4⟩
  |inr e=>exact AB L q hrest n d e
theorem laid_met{P:Program}{W:World}{L:List (String×DataW Unit)}(h:laidMetH P L W)(hno:(L.filter fun x=>x.2.handleName?.isSome)=[]):laidMet P L W:=by
 unfold laidMetH at h;rw[hno]at h;exact h
theorem var_of_laid{P:Program}{W:World}{L:List (String×DataW Unit)}(h:laidMet P L W)(n:String)(xs:List UInt32)(hm:(n,DataW.agg (xs.map lw))∈L)(h0:0<xs.length)
  (g:Nat) (t e:TypeId) (m:Nat) (hg:P.globalNamed n=some g) (ht:(P.globals[g]?).map (·.type)=some t) (hu:P.underlying t=some (.array m e)) (he:P.underlying e=some (.int .u32)) (hc:P.cellsOf e=1):
  Var W g xs:=by
 obtain⟨ps,hv,_,_⟩:=h;obtain⟨g',t',cs,fuel,p,hg',ht',hvar,htr⟩:=AB L ps hv n _ hm;obtain rfl:=Option.some.inj (hg.symm.trans hg');obtain rfl:=Option.some.inj (ht.symm.trans ht');obtain⟨ys,k,hf,hx,hl,hyl,hi⟩:=DataW.trod_array hu htr;simp only[Prod.mk.injEq,DataW.agg.injEq]at hx;have hmap:=hx.1;have hlen:xs.length=m:=by rw[<-hyl];have:=congrArg List.length hmap;simpa using this
 have hcell:∀i,i<xs.length->cs[i]? =some (.int .u32 ((Da.wi xs i).toNat:Int)):=fun i hi'=>by
  have h1:=hi i qO;rw[hc,Nat.mul_one]at h1;have hyi:i<ys.length:=qO;rw[List.getElem?_eq_getElem hyi]at h1;obtain⟨z,hz,he2,_⟩:=DataW.trod_int he h1;have h2:(xs.map lw)[i]? =some (ys[i]).1:=by rw[hmap];simp[hyi]
  rw[he2]at h2;have h3:lw (Da.wi xs i)=.lit (.int .u32 z):=by
   have:(xs.map lw)[i]? =some (lw (Da.wi xs i)):=by simp[Da.wi,hi']
   rw[this]at h2;exact Option.some.inj h2
  have h4:((Da.wi xs i).toNat:Int)=z:=by
   unfold lw at h3;injection h3 with h3
   injection h3 with _ h3
  have h5:cs.toList[i]? =some (.int .u32 z):=by
   have:=congrArg (fun l=>l[0]?) hz;simpa using this
  rw[h4];simpa using h5
 refine⟨?_,fun j v hv=>?_⟩
 ·have:=World.var?_cell hg hvar 0;rw[hcell 0 h0]at this;unfold World.cell? at this;refine Classical.byContradiction fun hge=>?_
  rw[Array.getElem?_eq_none (show W.heap.size<=(⟨g,0,none⟩:Addr).block by show W.heap.size<=g;omega)]at this;simp at this
 ·have hj:j<xs.length:=by have:=(List.getElem?_eq_some_iff.1 hv).1;simpa using this
  rw[Nat.zero_add,World.var?_cell hg hvar j,hcell j hj,<-hv,dS xs j hj]
theorem nC{P:Program}{W:World}(f:String×DataW Unit->Bool):∀(L:List (String×DataW Unit))(ps:List MemPlace),DataW.LaidVars P W L ps->∃ps',DataW.LaidVars P W (L.filter f) ps'/\ps'.Sublist ps
 |[],ps,h=>⟨ps,h,List.Sublist.refl _⟩
 |(n,d)::L,ps,h=>by
  obtain⟨g,t,cs,fu,p,q,h1,h2,h3,h4,hrest,rfl⟩:=h;obtain⟨q',hq,hsub⟩:=nC f L q hrest;by_cases e:f (n,d)=true
  ·rw[List.filter_cons,if_pos e];exact⟨_,⟨g,t,cs,fu,p,q',h1,h2,h3,h4,hq,rfl⟩,List.Sublist.append (List.Sublist.refl _) hsub⟩
  ·rw[List.filter_cons,if_neg e];exact⟨q',hq,hsub.trans (List.sublist_append_right _ _)⟩
theorem laidMet_filter{P:Program}{W:World}{L:List (String×DataW Unit)}(f:String×DataW Unit->Bool)(h:laidMet P L W):laidMet P (L.filter f) W:=by
 obtain⟨ps,hv,hnd,hrows⟩:=h;obtain⟨ps',hv',hsub⟩:=nC f L ps hv;exact⟨ps',hv',hsub.nodup hnd,fun b off hb=>hrows b off (hsub.subset hb)⟩
theorem laid_metH{P:Program}{W:World}{L:List (String×DataW Unit)}(h:laidMet P L W)(hno:(L.filter fun x=>x.2.handleName?.isSome)=[]):laidMetH P L W:=by
 unfold laidMetH;rw[hno];exact h
def isIface(x:String×DataW Unit):Bool:=match x.2 with
 | .iface _ _=>true
 |_=>false
