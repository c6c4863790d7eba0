/- Rgs -/
import Derived.Test.YteldgablpehcpaaGreatDoorRg
set_option linter.unusedVariables false
set_option linter.unusedSimpArgs false
set_option maxRecDepth 100000
set_option maxHeartbeats 8000000
namespace Go.Proofs.YteldgablpehcpaaGreatDoor
open Go.RowKit
namespace Rg
def okA(ops:Array Oper):Bool:=(List.range ops.size).all fun i=>match ops[i]? with
 |some o=>o.guard.isNone&&o.after.all fun e=>decide (e.on<i)|| !Region.binds .any e
 |none=>false
theorem Pk{ops:Array Oper}(h:okA ops=true){i:Nat}{o:Oper}(ho:ops[i]? =some o):o.guard=none/\∀e∈o.after,Region.binds .any e=true->e.on<i:=by
 have h1:=List.all_eq_true.1 h i (List.mem_range.2 (aE.1 ho).1);rw[ho]at h1;dsimp only at h1;rw[Bool.and_eq_true]at h1;refine⟨by simpa using h1.1,fun e he hb=>?_⟩;have:=Array.all_eq_true_iff_forall_mem.1 h1.2 e he;rw[hb]at this;simpa using this
theorem TP{P:Program}{ops:Array Oper}{Q:Exit->Act->World->Prop}(J:(Nat->Bool)->Act->World->Prop)(hok:okA ops=true)
  (hstep:∀(i:Nat)(o:Oper)(C:Nat->Bool)(b:Act)(v:World),ops[i]? =some o->J C b v->C i=false->(∀e∈o.after,Region.binds .any e=true->C e.on=true)->o.wp P b v (fun b' v'=>J (fun k=>decide (k=i)||C k) b' v') Q)
  (hend:∀C b v,J C b v->(∀i,i<ops.size->C i=true)->Q .normal b v):
  ∀(fuel:Nat)(listed:Array Bool)(b:Act)(v:World),left listed=fuel->listed.size=ops.size->J (fun k=>listed.getD k false) b v->wpAny P .any ops Q fuel listed b v:=by
 have hdone:∀(listed:Array Bool),listed.size=ops.size->(∀i,i<ops.size->listed.getD i false=true)->Region.ready .any ops listed=[]:=by
  intro listed hs hall;cases e:Region.ready .any ops listed with
  |nil=>rfl
  |cons j t=>
   have hj:j∈Region.ready .any ops listed:=by rw[e];exact List.mem_cons_self
   obtain⟨h0,o,ho,_⟩:=mem_ready.1 hj;have hjs:=(aE.1 ho).1;have h1:=hall j hjs;rw[Array.getD_eq_getD_getElem?,Array.getElem?_eq_getElem (by rw[hs];exact hjs),Option.getD_some]at h0 h1;rw[h0]at h1;cases h1
 intro fuel;induction fuel with
 |zero=>
  intro listed b v hl hs hJ;have hall:∀i,i<ops.size->listed.getD i false=true:=fun i hi=>by
   have h:=lH hl i;rw[Array.getD_eq_getD_getElem?,Array.getElem?_eq_getElem (by rw[hs];exact hi)]at h⊢;exact h
  exact wpAny_done (hdone listed hs hall) (hend _ b v hJ hall) 0
 |succ fuel ih=>
  intro listed b v hl hs hJ;by_cases hall:∀i,i<ops.size->listed.getD i false=true
  ·exact wpAny_done (hdone listed hs hall) (hend _ b v hJ hall) _
  ·have hmin:∀i,i<ops.size->listed.getD i false=false->∃j,j<ops.size/\listed.getD j false=false/\∀k,k<j->listed.getD k false=true:=by
    intro i;induction i using Nat.strongRecOn with
    |ind i ih2=>
     intro his hb;by_cases h:∀k,k<i->listed.getD k false=true
     ·exact⟨i,his,hb,h⟩
     ·have⟨k,hk⟩:=Classical.not_forall.1 h;have⟨hk1,hk3⟩:=Classical.not_imp.1 hk;exact ih2 k hk1 qO (by simpa using hk3)
   have⟨i0,hi0⟩:=Classical.not_forall.1 hall;have⟨hi1,hi3⟩:=Classical.not_imp.1 hi0;obtain⟨j,hjs,hjl,hjk⟩:=hmin i0 hi1 (by simpa using hi3);have hmem:j∈Region.ready .any ops listed:=by
    refine mem_ready.2 ⟨?_,ops[j],Array.getElem?_eq_getElem hjs,fun e he hb=>hjk _ ((Pk hok (Array.getElem?_eq_getElem hjs)).2 e he hb)⟩;rw[Array.getD_eq_getD_getElem?,Array.getElem?_eq_getElem (by rw[hs];exact hjs)]at hjl⊢;exact hjl
   refine⟨fun h=>(by rw[h]at hmem;cases hmem),fun i hi=>?_⟩;obtain⟨h0,o,ho,hdep⟩:=mem_ready.1 hi;have his:=(aE.1 ho).1;have h0f:listed.getD i false=false:=by
    rw[Array.getD_eq_getD_getElem?,Array.getElem?_eq_getElem (by rw[hs];exact his)]at h0⊢;exact h0
   unfold wpOp;rw[ho];dsimp only;rw[if_pos (by simp[Region.wanted,(Pk hok ho).1])];refine .inl (Oper.wp_mono ?_ (hstep i o _ b v ho hJ h0f hdep));intro b' v' hJ';refine ih _ _ _ (by have:=left_eq h0;omega) (by simpa using hs) ?_;have e:(fun k=>(listed.setIfInBounds i true).getD k false)=fun k=>decide (k=i)||listed.getD k false:=by
    funext k
    by_cases ek:i=k
    ·subst ek;simp[Array.getD_eq_getD_getElem?,hs,his]
    ·rw[getD_set_ne _ ek,decide_eq_false (fun h:k=i=>ek h.symm),Bool.false_or]
   rw[e];exact hJ'
theorem FY{P:Program}{ops:Array Oper}{id:Nat}{Q:Exit->Act->World->Prop}{a:Act}{w:World}(hm:P.follows .mixedOrders=true)(J:(Nat->Bool)->Act->World->Prop)(hok:okA ops=true)(h0:J (fun _=>false) a w.drew)
  (hstep:∀(i:Nat)(o:Oper)(C:Nat->Bool)(b:Act)(v:World),ops[i]? =some o->J C b v->C i=false->(∀e∈o.after,Region.binds .any e=true->C e.on=true)->o.wp P b v (fun b' v'=>J (fun k=>decide (k=i)||C k) b' v') Q)
  (hend:∀C b v,J C b v->(∀i,i<ops.size->C i=true)->Q .normal b v):
  (Code.region id ops true).wp P Q a w:=by
 refine wp_region_any hm (TP J hok hstep hend _ _ _ _ ?_ qS ?_)
 ·unfold left;simp
 ·have e:(fun k=>(Array.replicate ops.size false).getD k false)=fun _=>false:=by
   funext k
   by_cases hk:k<ops.size
   ·simp[Array.getD_eq_getD_getElem?,hk]
   ·simp[Array.getD_eq_getD_getElem?,hk]
  rw[e];exact h0
theorem kF{P:Program}{Q:Exit->Act->World->Prop}{o:Oper}{b:Act}{v v':World}{K:Act->World->Prop}(x:Value)(h:(execOp b.eval o).run P v=.ok (.value x) v')(hK:K (b.put o.dst x) v'):o.wp P b v K Q:=by
 unfold Oper.wp;rw[h];exact hK
theorem wp_move{P:Program}{Q:Exit->Act->World->Prop}{o:Oper}{b:Act}{v:World}{K:Act->World->Prop}{x:Operand}(ho:o.op=.move x)(hK:K (b.put o.dst (b.eval x)) v):o.wp P b v K Q:=kF _ (by simp[execOp,ho]) hK
theorem wp_assign{P:Program}{Q:Exit->Act->World->Prop}{o:Oper}{b:Act}{v:World}{K:Act->World->Prop}{x:Operand}(ho:o.op=.assign x)(hK:K (b.put o.dst (b.eval x)) v):o.wp P b v K Q:=kF _ (by simp[execOp,ho]) hK
theorem Yp{P:Program}{Q:Exit->Act->World->Prop}{f:FuncId}{o:Oper}{xs:Array Operand}{ts:Array TypeId}{args:Array Value}{b:Act}{v:World}{K:Act->World->Prop}{R:Value->World->Prop}
  (hop:o.op=.call {callee:=.value (.func f),args:=xs,argTypes:=ts}) (ek:∀args w,(callFunc f args).run P w=.ok (.enter f args) w) (ha:xs.map b.eval=args) (hc:Calls P f args v fun e v'=>∃x,e=.returned x/\R x v') (h:∀x v',R x v'->K (b.put o.dst x) v'):o.wp P b v K Q:=by
 unfold Oper.wp;have e:b.eval (.func f)=.func (.func f) #[] #[]:=rfl;have e2:(execOp b.eval o).run P v=.ok (.enter f args) v:=by
  simp[execOp,hop,resolve,invoke,e,ha,ek,go_sem]
 rw[e2];refine hc.mono ?_;rintro e v' ⟨x,rfl,hR⟩;exact h x v' hR
end Rg
