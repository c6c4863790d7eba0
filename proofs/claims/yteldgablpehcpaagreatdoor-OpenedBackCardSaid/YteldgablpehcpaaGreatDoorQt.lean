/- Qt -/
import Derived.Test.YteldgablpehcpaaGreatDoorRg
import Derived.StillTail
import Derived.Deep.Quiet
import Derived.Deep.MidRow
set_option linter.unusedVariables false
set_option linter.unusedSimpArgs false
set_option maxRecDepth 100000
set_option maxHeartbeats 8000000
namespace Go.Proofs.YteldgablpehcpaaGreatDoor
open Go.RowKit
namespace Qt
def y9(n m:Nat):Array Bool:=(List.replicate n true++List.replicate m false).toArray
def LG(l:List Oper)(n:Nat):Bool:=
 decide (n<l.length)&&Region.sinkB .any l.toArray n&&Region.chainB .any l.toArray n&&Region.lexB .any (l.take n).toArray&&
 ((List.range n).all fun i=>match l[i]? with|some o=>o.guard.isNone&&o.after.all (fun e=>decide (e.on<i))|none=>false)&&
 Region.seqB .any l.toArray (l.length-n) n (y9 n (l.length-n))
theorem Cs{l:List Oper}{n:Nat}(h:((List.range n).all fun i=>match l[i]? with|some o=>o.guard.isNone&&o.after.all (fun e=>decide (e.on<i))|none=>false)=true){i:Nat}(hi:i<n):
  ∃o,l[i]? =some o/\o.guard=none/\∀e∈o.after,e.on<i:=by
 have h1:=List.all_eq_true.1 h i (List.mem_range.2 hi);cases ho:l[i]? with
 |none=>rw[ho]at h1;cases h1
 |some o=>
  rw[ho]at h1;dsimp only at h1;rw[Bool.and_eq_true]at h1;refine⟨o,rfl,by simpa using h1.1,fun e he=>?_⟩;have:=Array.all_eq_true_iff_forall_mem.1 h1.2 e he;simpa using this
structure Rel(l:List Oper)(n:Nat)(listed head:Array Bool):Prop where
 size:listed.size=l.length
 hsize:head.size=n
 same:∀i,i<n->listed[i]? =head[i]?
 tail:∀t,n<=t->t<l.length->listed[t]? =some false
theorem Rel.getD{l:List Oper}{n:Nat}{listed head:Array Bool}(h:Rel l n listed head)(i:Nat)(hi:i<n)(b:Bool):listed.getD i b=head.getD i b:=by
 rw[Array.getD_eq_getD_getElem?,Array.getD_eq_getD_getElem?,h.same i hi]
theorem Rel.set{l:List Oper}{n:Nat}{listed head:Array Bool}(h:Rel l n listed head)(i:Nat)(hi:i<n)(hn:n<l.length):Rel l n (listed.setIfInBounds i true) (head.setIfInBounds i true):=by
 refine⟨by simp[h.size],by simp[h.hsize],fun j hj=>?_,fun t h1 h2=>?_⟩
 ·rw[Array.getElem?_setIfInBounds,Array.getElem?_setIfInBounds,h.size,h.hsize,h.same j hj];by_cases e:i=j
  ·subst e;simp[hi,show i<l.length by omega]
  ·simp[e]
 ·rw[Array.getElem?_setIfInBounds,if_neg qO];exact h.tail t h1 h2
theorem xJ{l:List Oper}{n:Nat}{listed head:Array Bool}(h:Rel l n listed head)
  (hg:((List.range n).all fun i=>match l[i]? with|some o=>o.guard.isNone&&o.after.all (fun e=>decide (e.on<i))|none=>false)=true) {i:Nat} (hi:i<n):
  i∈Region.ready .any l.toArray listed↔i∈Region.ready .any (l.take n).toArray head:=by
 obtain⟨o,ho,hgd,he⟩:=Cs hg hi;have h1:l.toArray[i]? =some o:=by simpa using ho
 have h2:(l.take n).toArray[i]? =some o:=by simp[List.getElem?_take,hi,ho]
 rw[mem_ready,mem_ready,h1,h2,h.getD i hi true];constructor
 ·rintro⟨ha,o',ho',hb⟩;obtain rfl:=Option.some.inj ho';exact⟨ha,_,rfl,fun e he' hbi=>by rw[<-h.getD e.on (by have:=he e he';omega) false];exact hb e he' hbi⟩
 ·rintro⟨ha,o',ho',hb⟩;obtain rfl:=Option.some.inj ho';exact⟨ha,_,rfl,fun e he' hbi=>by rw[h.getD e.on (by have:=he e he';omega) false];exact hb e he' hbi⟩
theorem Cu{l:List Oper}{n:Nat}{head:Array Bool}(hs:head.size=n)
  (hg:((List.range n).all fun i=>match l[i]? with|some o=>o.guard.isNone&&o.after.all (fun e=>decide (e.on<i))|none=>false)=true) (hn:n<l.length):
  ∀(i:Nat),i<n->head.getD i true=false->∃j,j∈Region.ready .any (l.take n).toArray head:=by
 intro i;induction i using Nat.strongRecOn with
 |_ i ih=>
  intro hi hu;obtain⟨o,ho,hgd,he⟩:=Cs hg hi;have h2:(l.take n).toArray[i]? =some o:=by simp[List.getElem?_take,hi,ho]
  by_cases hall:∀e∈o.after,Region.binds .any e=true->head.getD e.on false=true
  ·exact⟨i,mem_ready.2 ⟨hu,o,h2,hall⟩⟩
  ·simp only[Classical.not_forall]at hall;obtain⟨e,he1,he2,he3⟩:=hall;have hlt:=he e he1;refine ih e.on hlt qO ?_;rw[Array.getD_eq_getD_getElem?]at he3⊢;rw[Array.getElem?_eq_getElem qO]at he3⊢;simpa using he3
theorem Rel.full{l:List Oper}{n:Nat}{listed head:Array Bool}(h:Rel l n listed head)(hn:n<l.length)(h0:∀i,head.getD i true=true):listed=y9 n (l.length-n):=by
 refine Array.ext (by simp[y9,h.size];omega) fun i h1 h2=>?_
 have h3:i<l.length:=by rw[<-h.size];exact h1
 have e:listed[i]? =some listed[i]:=Array.getElem?_eq_getElem h1;simp only[y9,List.getElem_toArray,List.getElem_append,List.length_replicate,List.getElem_replicate];by_cases hi:i<n
 ·rw[dif_pos hi];have h4:=h0 i;rw[Array.getD_eq_getD_getElem?,<-h.same i hi,e]at h4;simpa using h4
 ·rw[dif_neg hi];have:=h.tail i qO h3;rw[e]at this;simpa using this
theorem AI{P:Program}{Q:Exit->Act->World->Prop}{C:World->Prop}{l:List Oper}{n:Nat}(hB:LG l n=true){K:Act->Prop}
  (hK:∀a w,C w->K a->wpList P l.toArray Q (l.drop n) a w):
  ∀(f:Nat)(listed head:Array Bool)(a:Act)(w:World),C w->Rel l n listed head->HeadInv .any l.toArray n listed->Rg.left head=f->wpAnyQ P .any (l.take n).toArray C K f head a->wpAny P .any l.toArray Q (f+(l.length-n)) listed a w:=by
 unfold LG at hB;simp only[Bool.and_eq_true]at hB;obtain⟨⟨⟨⟨⟨hn,hs⟩,hc⟩,hlex⟩,hg⟩,hseq⟩:=hB;have hn:n<l.length:=by simpa using hn
 intro f;induction f with
 |zero=>
  intro listed head a w hw hr hi hl h;have hfull:=hr.full hn (Rg.lH hl);subst hfull;rw[Nat.zero_add,show l.length-n=(l.drop n).length by simp];exact wpAny_of_seq (l.drop n) n _ a w (fun j=>by simp[List.getElem?_drop]) (by simpa using hseq) (hK a w hw h.2)
 |succ f ih=>
  intro listed head a w hw hr hi hl h;have hun:∃i,i<n/\head.getD i true=false:=by
   refine Classical.byContradiction fun hno=>?_
   have hz:Rg.left head=0:=by
    unfold Rg.left;refine List.count_eq_zero.2 fun hm=>?_
    obtain⟨i,h1,h2⟩:=List.mem_iff_getElem.1 hm;have h1':i<head.size:=by simpa using h1
    refine hno ⟨i,by rw[<-hr.hsize];exact h1',?_⟩;rw[Array.getD_eq_getD_getElem?,Array.getElem?_eq_getElem h1'];simpa using h2
   omega
  obtain⟨i0,hi0,hu0⟩:=hun;rw[show f+1+(l.length-n)=(f+(l.length-n))+1 by omega];refine⟨fun h0=>?_,fun i hi'=>?_⟩
  ·obtain⟨j,hj⟩:=Cu hr.hsize hg hn i0 hi0 hu0;have hjn:j<n:=by
    have:=(mem_ready.1 hj).1;rw[<-hr.hsize];refine Classical.byContradiction fun hge=>?_
    rw[Array.getD_eq_getD_getElem?,Array.getElem?_eq_none qO]at this;cases this
   have:=(xJ hr hg hjn).2 hj;rw[h0]at this;cases this
  ·have hin:i<n:=by
    refine Classical.byContradiction fun hge=>?_
    exact tail_waits hs hc (by simpa using hn) hi (n-i0) i0 rfl hi0 (by rw[hr.getD i0 hi0];exact hu0) i qO hi'
   have hrd:=(xJ hr hg hin).1 hi';have hq:=h.2 i hrd;obtain⟨o,ho,hgd,he⟩:=Cs hg hin;have h1:l.toArray[i]? =some o:=by simpa using ho
   have h2:(l.take n).toArray[i]? =some o:=by simp[List.getElem?_take,hin,ho]
   have hwt:∀ops:Array Oper,Region.wanted o (yielded ops a.tmps)=true:=fun ops=>by simp[Region.wanted,hgd]
   unfold qOp at hq;unfold wpOp;simp only[h1];simp only[h2]at hq;rw[if_pos (hwt _)]at hq⊢;refine .inl (Oper.wp_of_quiet hw (fun a' w' hw' hk=>?_) hq);exact ih _ _ a' w' hw' (hr.set i hin hn) (hi.set hi' hin) (by
    have:=Rg.left_eq (mem_ready.1 hrd).1;omega) hk
theorem gu{P:Program}{id:Nat}{Q:Exit->Act->World->Prop}{a:Act}{w:World}{l:List Oper}(C:World->Prop)(n:Nat)(hm:P.follows .mixedOrders=true)(hB:LG l n=true)(hC:C {w with drawn:=w.drawn+1})
  (h:wpQuiet P (l.take n).toArray C (fun a'=>∀w',C w'->wpList P l.toArray Q (l.drop n) a' w') (l.take n) a):(Code.region id l.toArray true).wp P Q a w:=by
 have hB':=hB;unfold LG at hB';simp only[Bool.and_eq_true]at hB';obtain⟨⟨⟨⟨⟨hn,hs⟩,hc⟩,hlex⟩,hg⟩,hseq⟩:=hB';have hn:n<l.length:=by simpa using hn
 have htl:(l.take n).length=n:=by simp;omega
 simp only[Region.lexB,Bool.and_eq_true]at hlex;have H:=wpAnyQ_lex (P:=P) (C:=C) (md:=.any) hlex.1 (l.take n) 0 (Array.replicate (l.take n).toArray.size false) a qS (by simpa using hlex.2) h;refine wp_region_any hm ?_;have:=AI hB (P:=P) (Q:=Q) (C:=C) (K:=fun a'=>∀w',C w'->wpList P l.toArray Q (l.drop n) a' w') (fun a w' hw' hk=>hk w' hw') n (Array.replicate l.toArray.size false) (Array.replicate (l.take n).toArray.size false) a {w with drawn:=w.drawn+1} hC
  ⟨qS,by simpa using htl,fun i hi=>by simp[Array.getElem?_replicate,htl,hi,show i<l.length by omega],fun t h1 h2=>by simp[Array.getElem?_replicate,h2]⟩
  ⟨qS,fun j oj _ hl=>(by rw[getD_replicate_false]at hl;cases hl),fun t _ ht=>getD_in (by simpa using ht) (getD_replicate_false _ _)⟩
  (by unfold Rg.left;simp;omega) (by rw[htl]at H;exact H)
 rw[show n+(l.length-n)=l.toArray.size by simp;omega]at this;exact this
theorem di{P:Program}{id:Nat}{Q:Exit->Act->World->Prop}{a:Act}{w:World}{l:List Oper}(n:Nat)(hm:P.follows .mixedOrders=true)(hB:LG l n=true)
  (h:wpQuiet P (l.take n).toArray (fun w'=>∃m,w'=w.drewN m) (fun a'=>∀w',(∃m,w'=w.drewN m)->wpList P l.toArray Q (l.drop n) a' w') (l.take n) a):(Code.region id l.toArray true).wp P Q a w:=
 gu _ n hm hB ⟨1,rfl⟩ h
theorem oZ{P:Program}{ops:Array Oper}{C:World->Prop}{K:Act->Prop}{o:Oper}{a:Act}(hg:o.guard=none){v:Value}(hv:∀w,(execOp a.eval o).run P w=.ok (.value v) w)(h:K (a.put o.dst v)):
  if Region.wanted o (yielded ops a.tmps)then o.quiet P a C K else K (a.put o.dst undef):=by
 rw[if_pos (by simp[Region.wanted,hg])];refine⟨v,fun w hw=>?_,h⟩;unfold Oper.quietAt;rw[hv w];exact⟨rfl,rfl⟩
theorem lu{P:Program}{ops:Array Oper}{C:World->Prop}{K:Act->Prop}{o:Oper}{rest:List Oper}{a:Act}(hg:o.guard=none)(ty:TypeId)(x:Operand)(ho:o.op=.load ty x)
  (b off:Nat) (hx:a.eval x=.pointer (some ⟨b,off,none⟩)) (cs:List Value) (d:TypeDesc) (hc:∀w,C w->w.rangeAt b off cs) (hu:P.underlying ty=some d) (hd:d.isRow=true) (hi:(P.info? ty).map (·.size)=some cs.length)
  (h:wpQuiet P ops C K rest (a.put o.dst (.agg cs.toArray))):wpQuiet P ops C K (o::rest) a:=by
 unfold wpQuiet;rw[if_pos (by simp[Region.wanted,hg])];refine⟨.agg cs.toArray,fun w hw=>?_,h⟩;unfold Oper.quietAt execOp;simp only[ho,hx,run_loadAt_mid w b off ty cs d (hc w hw) hu hd hi,Result.andThen_ok,Sem.run_bind,Sem.run_pure,Oper.quietUpon,and_self]
theorem LH{P:Program}{ops:Array Oper}{C:World->Prop}{K:Act->Prop}{o:Oper}{rest:List Oper}{a:Act}(hg:o.guard=none)(f:FuncId)(xs:Array Operand)(ts:Array TypeId)(ho:o.op=.call {callee:=.value (.func f),args:=xs,argTypes:=ts})
  (args:Array Value) (ha:xs.map a.eval=args) (ek:∀w,(callFunc f args).run P w=.ok (.enter f args) w) (v:Value) (hc:∀w,C w->Calls P f args w fun e w'=>e=.returned v/\C w')
  (h:wpQuiet P ops C K rest (a.put o.dst v)):wpQuiet P ops C K (o::rest) a:=by
 unfold wpQuiet;rw[if_pos (by simp[Region.wanted,hg])];refine⟨v,fun w hw=>?_,h⟩;have hrun:(execOp a.eval o).run P w=.ok (.enter f args) w:=by
  simp only[execOp,ho,resolve,invoke];have hx:a.eval (.func f)=.func (.func f) #[] #[]:=rfl;simp[hx,ha,ek w,go_sem]
 unfold Oper.quietAt;rw[hrun];exact⟨rfl,hc w hw⟩
end Qt
