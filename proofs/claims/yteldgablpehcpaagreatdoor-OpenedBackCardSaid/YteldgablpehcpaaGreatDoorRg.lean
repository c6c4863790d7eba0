/- Rg -/
import Derived.Test.YteldgablpehcpaaGreatDoorKit
import Derived.RangeFuncNested
import Derived.RangeFuncBound
import Derived.RangeFuncCalls
import Derived.RangeFuncLeaves
import Derived.Shelf.Abstract
import Derived.Shelf.RegionOpen
import Derived.OwnWalkIn
import Derived.TacticsInMore
import Derived.LoopNIn
import Derived.LoopIn
import Derived.OrdersIn
import Derived.Orders
import Derived.OrdersHeld
import Derived.RangeFuncBox
import Derived.Sort.CutIn
set_option linter.unusedVariables false
set_option linter.unusedSimpArgs false
set_option maxRecDepth 100000
set_option maxHeartbeats 8000000
namespace Go.Proofs.YteldgablpehcpaaGreatDoor
open Go.RowKit
namespace Rf
structure NC(B:Nat)(X X':World):Prop where
 os:X'.os=X.os
 tape:X'.tape=X.tape
 output:X'.output=X.output
 size:X.heap.size<=X'.heap.size
 same:∀k o,X.heap[k]? =some o->o.isCells=true∨k<B->X'.heap[k]? =some o
theorem NC.refl(B:Nat)(X:World):NC B X X:=⟨rfl,rfl,rfl,Nat.le_refl _,fun _ _ h _=>h⟩
theorem NC.trans{B:Nat}{X Y Z:World}(h:NC B X Y)(k:NC B Y Z):NC B X Z:=
 ⟨k.os.trans h.os,k.tape.trans h.tape,k.output.trans h.output,Nat.le_trans h.size k.size,fun i o hi ho=>k.same i o (h.same i o hi ho) ho⟩
theorem NC.alloc{B:Nat}(X:World)(o:Obj):NC B X (X.alloc o):=
 ⟨rfl,rfl,rfl,qS,fun k o' hk _=>(Below.heap_alloc X o k (aE.1 hk).1).trans hk⟩
theorem NC.put{B:Nat}{X:World}{l:Nat}{o:Obj}(o':Obj)(hB:B<=l)(h:X.heap[l]? =some o)(hc:o.isCells=false):NC B X (X.putObj l o'):=
 ⟨rfl,rfl,rfl,qS,fun k u hk hu=>by
  by_cases e:k=l
  ·subst e;rw[h]at hk;obtain rfl:=Option.some.inj hk;rcases hu with hu|hu
   ·rw[hc]at hu;cases hu
   ·omega
  ·exact(World.putObj_heap_other e).trans hk⟩
theorem NC.cell{B:Nat}{X X':World}(h:NC B X X'){p:Addr}{v:Value}(hv:X.cell? p=some v):X'.cell? p=some v:=by
 obtain⟨o,ho,hc⟩:=cells_of_cell hv;exact(World.cell?_of_block ((h.same _ o ho (.inl hc)).trans ho.symm)).trans hv
theorem NC.frozen{B:Nat}{X X':World}(h:NC B X X'){p:Addr}{v:Value}(hv:X.cell? p=some v):X'.frozen? p=X.frozen? p:=by
 obtain⟨o,ho,hc⟩:=cells_of_cell hv;exact World.frozen?_of_block ((h.same _ o ho (.inl hc)).trans ho.symm)
theorem NC.below{B n:Nat}{X X':World}(h:NC B X X')(hn:n<=B)(hx:n<=X.heap.size):Below n X X':=
 ⟨h.os,h.tape,h.output,h.size,fun k hk=>by
  have hlt:k<X.heap.size:=qO;rw[Array.getElem?_eq_getElem hlt];exact h.same k _ (Array.getElem?_eq_getElem hlt) (.inr qO)⟩
theorem NC.cells{B:Nat}{X X':World}(h:NC B X X'){k:Nat}{c:Array Value}{t:TypeId}{f:Nat×Nat}(hk:X.heap[k]? =some (.cells c t f)):X'.heap[k]? =some (.cells c t f):=h.same k _ hk (.inl rfl)
theorem NC.owns{B:Nat}{X X':World}(h:NC B X X'){n:Nat}{e:TypeId}{sz:Nat}{v:Value}{m:Nat}{xs:List Value}(ho:X.ownsRow n e sz v m xs):X'.ownsRow n e sz v m xs:=by
 obtain⟨h1,h2⟩:=ho;refine⟨h1,?_⟩;rcases h2 with h2|⟨g,cap,cur,e1,e2,e3,e4⟩
 ·exact .inl h2
 ·exact .inr ⟨g,cap,cur,e1,e2,h.cells e3,e4⟩
def Calm(B:Nat)(p:World->Prop):Prop:=∀X X',p X->NC B X X'->p X'
def lp(a:Act)(ps:Array Tmp)(assign body:Code)(fn:FuncId)(D:Nat)(st:LoopState)(pe:Option Code):Loop:=
 {state:=st,pending:=pe,fn:=fn,tmps:=a.tmps,params:=ps,assign:=assign,body:=body,defers:=D}
structure Held(D:Nat)(L:Loop)(X:World):Prop where
 rec_:X.heap[D+1]? =some (.loop L)
 defs:X.heap[D]? =some (.deferred (some []))
theorem Held.keeps{D:Nat}{L:Loop}{X X':World}(h:Held D L X)(k:KeepsOthers X X'):Held D L X':=⟨k.same _ _ h.rec_ rfl,k.same _ _ h.defs rfl⟩
theorem Held.put{D:Nat}{L:Loop}{X:World}(h:Held D L X)(L':Loop):Held D L' (X.putObj (D+1) (.loop L')):=
 ⟨World.putObj_heap_same (aE.1 h.rec_).1,(World.putObj_heap_other qO).trans h.defs⟩
theorem Held.nc{B D:Nat}{L:Loop}{X:World}(h:Held D L X)(hB:B<=D)(L':Loop):NC B X (X.putObj (D+1) (.loop L')):=NC.put _ qO h.rec_ rfl
def to(I:World->Prop)(Ix:Code->World->Prop)(X:World):Exit->Act->World->Prop
 | .normal,_,X'=>KeepsOthers X X'/\I X'
 | .ret,_,X'=>KeepsOthers X X'/\Ix .ret X'
 | .exit i,_,X'=>KeepsOthers X X'/\Ix (.exit i) X'
 | .goto t,_,X'=>KeepsOthers X X'/\Ix (.goto t) X'
 | .panic _,_,_=>False
 | .outgrown,_,_=>False
def sh(To:Exit->Act->World->Prop):Exit->Act->World->Prop
 | .panic _,_,_=>False
 | .outgrown,_,_=>False
 | .normal,a,w=>To .normal a w
 | .ret,a,w=>To .ret a w
 | .exit i,a,w=>To (.exit i) a w
 | .goto t,a,w=>To (.goto t) a w
theorem TV{I:World->Prop}{Ix:Code->World->Prop}{X:World}:∀e a w,sh (to I Ix X) e a w->to I Ix X e a w:=fun e a w h=>by
 cases e<;>first|exact h|exact(h:False).elim
def Wr{σ α:Type}(P:Program)(l:Nat)(enc:α->Array Value)(I:σ->World->Prop)(B Bx:World->Prop)(V:σ->α->σ->World->Prop):Prop:=
 ∀s x s' X,I s X->B X->V s x s' X->YieldAt Fence.wide 0 P l (enc x) X fun e X'=>
  (e=.returned (.bool true)/\I s' X'/\B X')∨(e=.returned (.bool false)/\Bx X')
def Seq{σ α:Type}(P:Program)(gf:Nat)(lb:Array Value)(enc:α->Array Value)(w:World)(I:σ->World->Prop)(V:σ->α->σ->World->Prop)(s0:σ)(E:σ->Prop):Prop:=
 ∀(l:Nat)(B Bx:World->Prop)(X:World),NC w.heap.size w X->I s0 X->B X->(∀Y Y',B Y->KeepsOthers Y Y'->B Y')->Wr P l enc I B Bx V->
  Calls P gf (#[.func (.yield l) #[] #[]]++lb) X fun e X'=>(∃v,e=.returned v)/\((∃s,E s/\I s X'/\B X')∨Bx X')
theorem fin{P:Program}{a:Act}{ps:Array Tmp}{assign body:Code}{fn:FuncId}{D:Nat}(jump:Option Code){X:World}(h:Held D (lp a ps assign body fn D .busy none) X):
  (Instr.endRound (D+1) jump).run P X=.ok (.bool jump.isNone) (X.putObj (D+1) (.loop (lp a ps assign body fn D (if jump.isNone then .ready else .done) jump))):=
 run_endRound (P:=P) jump h.rec_
theorem jd{σ α:Type}{P:Program}{g:Operand}{ps:Array Tmp}{assign body:Code}{Q:Exit->Act->World->Prop}{a:Act}{w:World}{gf:Nat}{lb:Array Value}
  (hg:a.eval g=.func (.func gf) #[] lb) (eg:∀args w,(callFunc gf args).run P w=.ok (.enter gf args) w)
  (enc:α->Array Value) (hps:∀x,(enc x).size=ps.size)
  (I:σ->World->Prop) (Ix:Code->World->Prop) (V:σ->α->σ->World->Prop) (s0:σ) (E:σ->Prop)
  (hI:∀s,Calm w.heap.size (I s)) (hIx:∀c,Calm w.heap.size (Ix c)) (hV:∀s x s',Calm w.heap.size (V s x s')) (h0:I s0 w)
  (hseq:Seq P gf lb enc w I V s0 E)
  (hround:∀(l:Nat)(s:σ)(x:α)(s':σ)(X Z:World)(To:Exit->Act->World->Prop),I s X->V s x s' X->
   Hid (∀b X',KeepsOthers X X'->I s' X'->To .normal b X')->Hid (∀b X',KeepsOthers X X'->Ix .ret X'->To .ret b X')->Hid (∀i b X',KeepsOthers X X'->Ix (.exit i) X'->To (.exit i) b X')->
   assign.wpIn (Fence.wide.inRound l) 0 P (Exit.then (fun a₁ Z'=>Z'=Z/\body.wpIn (Fence.wide.inRound l) 0 P (sh To) a₁ X) (fun _ _ _=>False)) {tmps:=(ps.zip (enc x)).foldl (fun t(p,v)=>t.setIfInBounds p v) a.tmps,defers:=[]} Z)
  (hdone:∀(D:Nat)(s:σ)(X:World),w.heap.size<=D->E s->I s X->X.heap[D]? =some (.deferred (some []))->Q .normal {a with defers:={target:=.collected D,args:=#[]}::a.defers} X)
  (hstop:∀(D:Nat)(c:Code)(X:World),w.heap.size<=D->Ix c X->X.heap[D]? =some (.deferred (some []))->c.wp P Q {a with defers:={target:=.collected D,args:=#[]}::a.defers} X):
  (Code.rangeFunc g ps assign body).wp P Q a w:=by
 refine(wpIn_wide (n:=0)).1 (wpIn_rangeFunc fun fn _=>?_);have hnc0:NC w.heap.size w ((w.alloc (.deferred (some []))).alloc (.loop (lp a ps assign body fn w.heap.size .ready none))):=(NC.alloc _ _).trans (NC.alloc _ _);have hheld:Held w.heap.size (lp a ps assign body fn w.heap.size .ready none) ((w.alloc (.deferred (some []))).alloc (.loop (lp a ps assign body fn w.heap.size .ready none))):=by
  constructor
  ·have:=World.alloc_heap_new (w.alloc (.deferred (some []))) (.loop (lp a ps assign body fn w.heap.size .ready none));rwa[World.size_alloc]at this
  ·exact(Below.heap_alloc _ _ _ qS).trans (World.alloc_heap_new w _)
 have hent:=run_enterLoop_outer (P:=P) (w:=w) fn a.tmps ps assign body;have hL:({state:=.ready,pending:=none,fn,tmps:=a.tmps,params:=ps,assign,body,defers:=w.heap.size}:Loop)=lp a ps assign body fn w.heap.size .ready none:=rfl;rw[hL]at hent;generalize (w.alloc (.deferred (some []))).alloc (.loop (lp a ps assign body fn w.heap.size .ready none))=W1 at hnc0 hheld hent;refine⟨w.heap.size+1,[{target:=.collected w.heap.size,args:=#[]}],W1,{target:=.fn (.func gf) lb,args:=#[.func (.yield (w.heap.size+1)) #[] #[]]},W1,gf,
  #[.func (.yield (w.heap.size+1)) #[] #[]]++lb,W1,hent,?_,fun _ _=>trivial,?_,(fun h=>absurd h qD),(callsIn_wide (n:=0)).2 ?_⟩
 ·simp only[resolve,hg];simp[go_sem]
 ·simp[invoke,go_sem,eg]
 refine(hseq (w.heap.size+1) (Held w.heap.size (lp a ps assign body fn w.heap.size .ready none))
  (fun X=>∃c,Ix c X/\Held w.heap.size (lp a ps assign body fn w.heap.size .done (some c)) X) _ hnc0 (hI _ _ _ h0 hnc0) hheld (fun _ _ h k=>h.keeps k) ?_).mono ?_
 ·intro s x s' X hi hB hv;refine⟨fn,_,assign,body,run_yield (P:=P) (args:=enc x) hB.rec_ (hps x),roundIn_of_wpIn trivial (wpIn_mono (hround _ s x s' _ X (to (I s') Ix (X.putObj (w.heap.size+1) (.loop (lp a ps assign body fn w.heap.size .busy none)))) (hI _ _ _ hi (hB.nc qN (lp a ps assign body fn w.heap.size .busy none))) (hV _ _ _ _ _ hv (hB.nc qN (lp a ps assign body fn w.heap.size .busy none))) (fun _ _ h k=>⟨h,k⟩) (fun _ _ h k=>⟨h,k⟩) (fun _ _ _ h k=>⟨h,k⟩)) ?_)⟩;intro e a₁ Z' hq;cases e with
  |normal=>?_
  |_=>exact hq.elim
  obtain⟨rfl,hbd⟩:=hq;refine⟨_,run_beginRound hB.rec_ rfl,?_⟩;have hB2:=hB.put (lp a ps assign body fn w.heap.size .busy none);have hn2:=hB.nc qN (lp a ps assign body fn w.heap.size .busy none);refine wpIn_mono (wpIn_mono hbd TV) ?_;rintro e a3 X3 hp;cases e with
  |normal=>
   obtain⟨hk,hi3⟩:=hp;have hB3:=hB2.keeps hk;exact⟨_,_,fin none hB3,.inl ⟨rfl,hI _ _ _ hi3 (hB3.nc qN _),hB3.put _⟩⟩
  |ret=>
   obtain⟨hk,hi3⟩:=hp;have hB3:=hB2.keeps hk;exact⟨_,_,fin (some .ret) hB3,.inr ⟨rfl,.ret,hIx _ _ _ hi3 (hB3.nc qN _),hB3.put _⟩⟩
  |exit i=>
   obtain⟨hk,hi3⟩:=hp;have hB3:=hB2.keeps hk;exact⟨_,_,fin (some (.exit i)) hB3,.inr ⟨rfl,.exit i,hIx _ _ _ hi3 (hB3.nc qN _),hB3.put _⟩⟩
  |goto t=>
   obtain⟨hk,hi3⟩:=hp;have hB3:=hB2.keeps hk;exact⟨_,_,fin (some (.goto t)) hB3,.inr ⟨rfl,.goto t,hIx _ _ _ hi3 (hB3.nc qN _),hB3.put _⟩⟩
  |panic ch=>exact hp.elim
  |outgrown=>exact hp.elim
 ·rintro e X2 ⟨⟨v,rfl⟩,(⟨s,hE,hi,hB⟩|⟨c,hi,hB⟩)⟩
  ·exact⟨none,_,run_endLoop (P:=P) hB.rec_ (by simp[lp]),hdone _ s _ qN hE (hI _ _ _ hi (hB.nc qN _)) (hB.put _).defs⟩
  ·exact⟨some c,_,run_endLoop (P:=P) hB.rec_ (by simp[lp]),(wpIn_wide (n:=0)).2 (hstop _ c _ qN (hIx _ _ _ hi (hB.nc qN _)) (hB.put _).defs)⟩
def kJ(ops:Array Oper):Bool:=ops.all fun o=>match o.op with
 | .defer _=>false
 |_=>true
theorem yY{ops:Array Oper}(h:kJ ops=true){i:Nat}{o:Oper}(ho:ops[i]? =some o):∀c,o.op≠ .defer c:=by
 intro c e;unfold kJ at h;rw[Array.all_eq_true]at h;obtain⟨hi,ho'⟩:=aE.1 ho;have:=h i hi;rw[ho',e]at this;cases this
theorem Ku{P:Program}{ops:Array Oper}{Q:Exit->Act->World->Prop}(l i:Nat)(hd:kJ ops=true){K:Act->World->Prop}{a:Act}{w:World}
  (h:wpOpIn Fence.wide 0 P ops Q i K a w):wpOpIn (Fence.wide.inRound l) 0 P ops Q i K a w:=by
 unfold wpOpIn at*;cases ho:ops[i]? with
 |none=>rw[ho]at h;exact h
 |some o=>
  rw[ho]at h;dsimp only at h⊢;split
  ·rename_i hw;rw[if_pos hw]at h;unfold Oper.wpIn at*;refine⟨h.1,?_⟩;have h2:=h.2;rw[Fence.wide_round,Oper.semAt_none]at h2;rw[show(Fence.wide.inRound l).round=some l from rfl,Oper.semAt_some l _ _ (yY hd ho)];exact h2
  ·rename_i hw;rw[if_neg hw]at h;exact h
theorem xG{P:Program}{md:Region.Mode}{ops:Array Oper}{Q:Exit->Act->World->Prop}(l:Nat)(hd:kJ ops=true):
  ∀(fuel:Nat)(listed:Array Bool)(a:Act)(w:World),wpAnyIn Fence.wide 0 P md ops Q fuel listed a w->wpAnyIn (Fence.wide.inRound l) 0 P md ops Q fuel listed a w
 |0,listed,a,w,h=>h
 |fuel+1,listed,a,w,h=>⟨h.1,fun i hi=>Ku l i hd (wpOpIn_mono (fun a' w' h'=>xG l hd fuel _ a' w' h') (h.2 i hi))⟩
theorem gj{P:Program}{ops:Array Oper}{Q:Exit->Act->World->Prop}{id l:Nat}{a:Act}{w:World}(hm:P.follows .mixedOrders=true)(hd:kJ ops=true)
  (h:wpAnyIn Fence.wide 0 P .any ops Q ops.size (Array.replicate ops.size false) a w.drew):(Code.region id ops true).wpIn (Fence.wide.inRound l) 0 P Q a w:=
 wpIn_region_any hm (xG l hd _ _ _ _ h)
theorem dh{P:Program}{f:FuncId}{fn:Func}{c:Code}{args:Array Value}{w:World}{R:Ending->World->Prop}
  (hf:P.funcs[f]? =some fn) (hb:fn.body=some c)
  (h:c.wp P (bodyPostM Fence.wide 0 P fn R) {tmps:=args++Array.replicate (fn.ntmps-args.size) undef,defers:=[]} w):Calls P f args w R:=
 (callsIn_wide (n:=0)).1 (callsIn_of_wp_marks hf hb trivial ((wpIn_wide (n:=0)).2 h) rfl)
theorem leaves{P:Program}{fn:Func}{tmps:Array Value}{R:Ending->World->Prop}{D:Nat}{X:World}{v:Value}
  (hK:X.heap[D]? =some (.deferred (some []))) (hr:(results fn tmps).run P (X.putObj D (.deferred none))=.ok v (X.putObj D (.deferred none))) (h:R (.returned v) (X.putObj D (.deferred none))):
  LeavesInM Fence.wide 0 P fn tmps R [{target:=.collected D,args:=#[]}] .returning X:=by
 refine⟨qS,.inl ⟨D,_,rfl,run_takeDeferred hK,?_⟩⟩;exact⟨v,hr,h⟩
end Rf
namespace Rg
def ok(ops:Array Oper)(N:Nat):Bool:=
 (List.range ops.size).all (fun i=>match ops[i]? with
  |some o=>(match o.guard with|none=>true|some g=>o.after.any fun e=>decide (e.on=g.1)&&Region.binds .any e)&&(match o.dst with|some d=>decide (d<N)|none=>false)&&o.after.all (fun e=>decide (e.on<i))
  |none=>false)&&
 (List.range ops.size).all (fun i=>(List.range ops.size).all fun j=>decide (i=j)|| !((ops[i]?.map (·.dst))==(ops[j]?.map (·.dst))))
def left(listed:Array Bool):Nat:=listed.toList.count false
theorem AD{listed:Array Bool}{i:Nat}(h:listed.getD i true=false):left (listed.setIfInBounds i true)+1<=left listed:=by
 unfold left;obtain⟨l⟩:=listed;simp only[Array.toList_setIfInBounds];have hi:i<l.length:=by
  by_cases e:i<l.length
  ·exact e
  ·rw[Array.getD_eq_getD_getElem?,Array.getElem?_eq_none (by simpa using e)]at h;cases h
 have hv:l[i]=false:=by simpa[Array.getD_eq_getD_getElem?,hi]using h
 clear h;induction l generalizing i with
 |nil=>simp at hi
 |cons b l ih=>
  cases i with
  |zero=>
   simp at hv;subst hv;simp
  |succ i=>
   simp at hi hv;have:=ih hi hv;simp only[qC,List.count_cons];omega
theorem lH{listed:Array Bool}(h:left listed=0)(i:Nat):listed.getD i true=true:=by
 unfold left at h;by_cases e:i<listed.size
 ·rw[Array.getD_eq_getD_getElem?,Array.getElem?_eq_getElem e];have:=List.count_eq_zero.1 h;cases hb:listed[i]with
  |true=>rfl
  |false=>exact absurd (by rw[<-hb];exact Array.getElem_mem_toList e) this
 ·rw[Array.getD_eq_getD_getElem?,Array.getElem?_eq_none qO];rfl
structure J(ops:Array Oper)(N:Nat)(G:Nat->Value->World->Prop)(a:Act)(w:World)(listed:Array Bool)(b:Act)(v:World):Prop where
 below:Below w.heap.size w v
 size:b.tmps.size=N
 defers:b.defers=a.defers
 rest:∀s,(∀(i:Nat)(o:Oper),ops[i]? =some o->o.dst≠some s)->b.tmps.getD s undef=a.tmps.getD s undef
 good:∀(i:Nat)(o:Oper)(d:Tmp),ops[i]? =some o->o.dst=some d->listed.getD i false=true->G i (b.tmps.getD d undef) v
 lsize:listed.size=ops.size
def Does(P:Program)(G:Nat->Value->World->Prop)(Q:Exit->Act->World->Prop)(i:Nat)(o:Oper)(b:Act)(v:World):Prop:=
 o.wp P b v (fun b' v'=>∃x,b'=b.put o.dst x/\G i x v'/\Below v.heap.size v v') Q
theorem iz(b:Act)(d:Nat)(x:Value)(h:d<b.tmps.size):(b.put (some d) x).tmps.getD d undef=x:=by
 simp[Act.put,Array.getD_eq_getD_getElem?,h]
theorem bl(b:Act)(d s:Nat)(x:Value)(h:d≠s):(b.put (some d) x).tmps.getD s undef=b.tmps.getD s undef:=by
 simp[Act.put,Array.getD_eq_getD_getElem?,Array.getElem?_setIfInBounds_ne h]
theorem nJ(b:Act)(d:Nat)(x:Value):(b.put (some d) x).tmps.size=b.tmps.size:=by simp[Act.put]
theorem put_defers(b:Act)(d:Nat)(x:Value):(b.put (some d) x).defers=b.defers:=rfl
theorem aJ{P:Program}{G:Nat->Value->World->Prop}{Q:Exit->Act->World->Prop}{i:Nat}{o:Oper}{b:Act}{v:World}(x:Value)(h:(execOp b.eval o).run P v=.ok (.value x) v)(hG:G i x v):Does P G Q i o b v:=by
 unfold Does Oper.wp;rw[h];exact⟨x,rfl,hG,Below.refl _ _⟩
theorem Hl{P:Program}{G:Nat->Value->World->Prop}{Q:Exit->Act->World->Prop}{i:Nat}{o:Oper}{b:Act}{v:World}{f:FuncId}{args:Array Value}(h:(execOp b.eval o).run P v=.ok (.enter f args) v)
  (hc:Calls P f args v fun e v'=>∃x,e=.returned x/\G i x v'/\Below v.heap.size v v'):Does P G Q i o b v:=by
 unfold Does Oper.wp;rw[h];refine hc.mono ?_;rintro e v' ⟨x,rfl,hG,hb⟩;exact⟨x,rfl,hG,hb⟩
theorem gt{P:Program}{G:Nat->Value->World->Prop}{Q:Exit->Act->World->Prop}{i:Nat}{o:Oper}{b:Act}{v v':World}(x:Value)(h:(execOp b.eval o).run P v=.ok (.value x) v')(hG:G i x v')(hb:Below v.heap.size v v'):Does P G Q i o b v:=by
 unfold Does Oper.wp;rw[h];exact⟨x,rfl,hG,hb⟩
section
variable {P:Program} {G:Nat->Value->World->Prop} {Q:Exit->Act->World->Prop} {i:Nat} {o:Oper} {b:Act} {v:World}
theorem aP{x:Operand}(ho:o.op=.move x)(hG:G i (b.eval x) v):Does P G Q i o b v:=aJ _ (by simp[execOp,ho]) hG
theorem gM{x:Operand}(ho:o.op=.assign x)(hG:G i (b.eval x) v):Does P G Q i o b v:=aJ _ (by simp[execOp,ho]) hG
theorem eI{f:FuncId}{xs:Array Operand}{ts:Array TypeId}{args:Array Value}(ho:o.op=.call {callee:=.value (.func f),args:=xs,argTypes:=ts})(ek:∀args w,(callFunc f args).run P w=.ok (.enter f args) w)(ha:xs.map b.eval=args)
  (hc:Calls P f args v fun e v'=>∃x,e=.returned x/\G i x v'/\Below v.heap.size v v'):Does P G Q i o b v:=Hl (args:=args) (by
   have e:b.eval (.func f)=.func (.func f) #[] #[]:=rfl;simp[execOp,ho,resolve,invoke,e,ha,ek,go_sem]) hc
end
def free(ops:Array Oper)(s:Tmp):Bool:=(List.range ops.size).all fun i=>match ops[i]? with
 |some o=> !(o.dst==some s)
 |none=>true
theorem free_spec{ops:Array Oper}{s:Tmp}(h:free ops s=true):∀(i:Nat)(o:Oper),ops[i]? =some o->o.dst≠some s:=by
 intro i o ho e;unfold free at h;have h1:=List.all_eq_true.1 h i (List.mem_range.2 (aE.1 ho).1);rw[ho]at h1;simp[e]at h1
def AE(ops:Array Oper)(N:Nat)(E D:Nat->Bool):Bool:=
 (List.range ops.size).all (fun i=>match ops[i]? with
  |some o=>if E i then !D i&&o.guard.isNone&&(match o.dst with|some d=>decide (d<N)|none=>false)&&o.after.all (fun e=>decide (e.on<i)&&(E e.on||D e.on))
   else D i||(o.after.any fun e=>decide (e.on<ops.size)&& !E e.on&& !D e.on&&Region.binds .any e)||(List.range ops.size).all fun j=> !E j||o.after.any fun e=>decide (e.on=j)&&Region.binds .any e
  |none=>false)&&
 (List.range ops.size).all (fun i=>(List.range ops.size).all fun j=>decide (i=j)|| !E i|| !E j|| !((ops[i]?.map (·.dst))==(ops[j]?.map (·.dst))))
theorem F9{ops:Array Oper}{N:Nat}{E D:Nat->Bool}(h:AE ops N E D=true){i:Nat}{o:Oper}(ho:ops[i]? =some o)(hm:E i=true):
  D i=false/\o.guard=none/\(∃d,o.dst=some d/\d<N)/\∀e∈o.after,e.on<i/\(E e.on=true∨D e.on=true):=by
 have hi:=(aE.1 ho).1;unfold AE at h;rw[Bool.and_eq_true]at h;have h1:=List.all_eq_true.1 h.1 i (List.mem_range.2 hi);rw[ho]at h1;dsimp only at h1;rw[if_pos hm,Bool.and_eq_true,Bool.and_eq_true,Bool.and_eq_true]at h1;obtain⟨⟨⟨h0,h2⟩,h3⟩,h4⟩:=h1;refine⟨by simpa using h0,by simpa using h2,?_,?_⟩
 ·cases hd:o.dst with
  |none=>rw[hd]at h3;cases h3
  |some d=>rw[hd]at h3;exact⟨d,rfl,by simpa using h3⟩
 ·intro e he;have:=Array.all_eq_true_iff_forall_mem.1 h4 e he;simpa using this
theorem Hm{ops:Array Oper}{N:Nat}{E D:Nat->Bool}(h:AE ops N E D=true){i:Nat}{o:Oper}(ho:ops[i]? =some o)(hm:E i=false)(hd:D i=false)(j:Nat)(hj:j<ops.size)(hE:E j=true):(∃e∈o.after,e.on<ops.size/\E e.on=false/\D e.on=false/\Region.binds .any e=true)∨∃e∈o.after,e.on=j/\Region.binds .any e=true:=by
 have hi:=(aE.1 ho).1;unfold AE at h;rw[Bool.and_eq_true]at h;have h1:=List.all_eq_true.1 h.1 i (List.mem_range.2 hi);rw[ho]at h1;dsimp only at h1;rw[if_neg (by rw[hm];simp),hd,Bool.false_or,Bool.or_eq_true]at h1;rcases h1 with h1|h1
 ·obtain⟨k,hk,hk2⟩:=Array.any_eq_true.1 h1;refine .inl ⟨_,Array.getElem_mem hk,?_⟩;simpa[and_assoc]using hk2
 refine .inr ?_;have h2:=List.all_eq_true.1 h1 j (List.mem_range.2 hj);rw[hE,Bool.not_true,Bool.false_or]at h2;obtain⟨k,hk,hk2⟩:=Array.any_eq_true.1 h2;rw[Bool.and_eq_true,decide_eq_true_eq]at hk2;exact⟨_,Array.getElem_mem hk,hk2⟩
theorem Co{ops:Array Oper}{N:Nat}{E D:Nat->Bool}(h:AE ops N E D=true){i j:Nat}{o o':Oper}(ho:ops[i]? =some o)(ho':ops[j]? =some o')(hi:E i=true)(hj:E j=true)(hne:i≠j):o.dst≠o'.dst:=by
 have his:=(aE.1 ho).1;have hjs:=(aE.1 ho').1;unfold AE at h;rw[Bool.and_eq_true]at h;have h1:=List.all_eq_true.1 (List.all_eq_true.1 h.2 i (List.mem_range.2 his)) j (List.mem_range.2 hjs);rw[ho,ho',hi,hj]at h1;simp only[Option.map_some,Bool.or_eq_true,decide_eq_true_eq,hne,false_or,Bool.not_eq_true',Bool.not_true,Bool.false_eq_true]at h1;intro e;rw[e]at h1;simp at h1
theorem left_eq{listed:Array Bool}{i:Nat}(h:listed.getD i true=false):left (listed.setIfInBounds i true)+1=left listed:=by
 unfold left;obtain⟨l⟩:=listed;simp only[Array.toList_setIfInBounds];have hi:i<l.length:=by
  by_cases e:i<l.length
  ·exact e
  ·rw[Array.getD_eq_getD_getElem?,Array.getElem?_eq_none (by simpa using e)]at h;cases h
 have hv:l[i]=false:=by simpa[Array.getD_eq_getD_getElem?,hi]using h
 clear h;induction l generalizing i with
 |nil=>simp at hi
 |cons b l ih=>
  cases i with
  |zero=>
   simp at hv;subst hv;simp
  |succ i=>
   simp at hi hv;have:=ih hi hv;simp only[qC,List.count_cons];omega
structure K(ops:Array Oper)(N:Nat)(E D:Nat->Bool)(G:Nat->Value->World->Prop)(a:Act)(w:World)(listed:Array Bool)(b:Act)(v:World):Prop where
 below:Below w.heap.size w v
 size:b.tmps.size=N
 defers:b.defers=a.defers
 rest:∀s,(∀(i:Nat)(o:Oper),E i=true->ops[i]? =some o->o.dst≠some s)->b.tmps.getD s undef=a.tmps.getD s undef
 good:∀(i:Nat)(o:Oper)(d:Tmp),E i=true->ops[i]? =some o->o.dst=some d->listed.getD i false=true->G i (b.tmps.getD d undef) v
 lsize:listed.size=ops.size
 late:∀i,E i=false->i<ops.size->listed.getD i (D i)=D i
 done:∀i,D i=true->i<ops.size->listed.getD i false=true
def tail(n:Nat)(E D:Nat->Bool):Array Bool:=((List.range n).map fun i=>E i||D i).toArray
theorem Ky{P:Program}{ops:Array Oper}{Q:Exit->Act->World->Prop}{S:World->Prop}{N:Nat}{E D:Nat->Bool}{G:Nat->Value->World->Prop}{a:Act}{w:World}(hok:AE ops N E D=true)
  (hS:∀v,Below w.heap.size w v->S v)
  (hkeep:∀i x v v',G i x v->Below v.heap.size v v'->G i x v')
  (hstep:∀(i:Nat)(o:Oper)(b:Act)(v:World),E i=true->ops[i]? =some o->Below w.heap.size w v->(∀s,(∀(i:Nat)(o:Oper),E i=true->ops[i]? =some o->o.dst≠some s)->b.tmps.getD s undef=a.tmps.getD s undef)->
   (∀e∈o.after,Region.binds .any e=true->E e.on=true->∀(o':Oper)(d:Tmp),ops[e.on]? =some o'->o'.dst=some d->G e.on (b.tmps.getD d undef) v)->Does P G Q i o b v)
  (hend:∀b v,Below w.heap.size w v->b.tmps.size=N->b.defers=a.defers->(∀s,(∀(i:Nat)(o:Oper),E i=true->ops[i]? =some o->o.dst≠some s)->b.tmps.getD s undef=a.tmps.getD s undef)->
   (∀(i:Nat)(o:Oper)(d:Tmp),E i=true->ops[i]? =some o->o.dst=some d->G i (b.tmps.getD d undef) v)->wpAnyH P .any ops Q S (left (tail ops.size E D)) (tail ops.size E D) b v):
  ∀(fuel:Nat)(listed:Array Bool)(b:Act)(v:World),left listed=fuel->K ops N E D G a w listed b v->wpAnyH P .any ops Q S fuel listed b v:=by
 have hfin:∀(fuel:Nat)(listed:Array Bool)(b:Act)(v:World),left listed=fuel->K ops N E D G a w listed b v->(∀i,i<ops.size->E i=true->listed.getD i false=true)->wpAnyH P .any ops Q S fuel listed b v:=by
  intro fuel listed b v hl hJ hall;have e:listed=tail ops.size E D:=by
   apply Array.ext
   ·rw[hJ.lsize];simp[tail]
   ·intro i h1 h2;simp only[tail,List.getElem_toArray,List.getElem_map,List.getElem_range];have hi:i<ops.size:=by rw[<-hJ.lsize];exact h1
    cases hE:E i with
    |true=>
     have:=hall i hi hE;rw[Array.getD_eq_getD_getElem?,Array.getElem?_eq_getElem h1]at this;simpa using this
    |false=>
     have:=hJ.late i hE hi;rw[Array.getD_eq_getD_getElem?,Array.getElem?_eq_getElem h1]at this;simpa using this
  have:=hend b v hJ.below hJ.size hJ.defers hJ.rest fun i o d hi ho hd=>hJ.good i o d hi ho hd (hall i (aE.1 ho).1 hi)
  rw[<-e,hl]at this;exact this
 intro fuel;induction fuel with
 |zero=>
  intro listed b v hl hJ;refine hfin 0 listed b v hl hJ fun i hi _=>?_
  have h:=lH hl i;rw[Array.getD_eq_getD_getElem?,Array.getElem?_eq_getElem (by rw[hJ.lsize];omega)]at h⊢;exact h
 |succ fuel ih=>
  intro listed b v hl hJ;by_cases hall:∀i,i<ops.size->E i=true->listed.getD i false=true
  ·exact hfin _ listed b v hl hJ hall
  ·have hmin:∀i,i<ops.size->E i=true->listed.getD i false=false->∃j,j<ops.size/\E j=true/\listed.getD j false=false/\∀k,k<j->E k=true->listed.getD k false=true:=by
    intro i;induction i using Nat.strongRecOn with
    |ind i ih2=>
     intro his hi hb;by_cases h:∀k,k<i->E k=true->listed.getD k false=true
     ·exact⟨i,his,hi,hb,h⟩
     ·have⟨k,hk⟩:=Classical.not_forall.1 h;have⟨hk1,hk⟩:=Classical.not_imp.1 hk;have⟨hk2,hk3⟩:=Classical.not_imp.1 hk;exact ih2 k hk1 qO hk2 (by simpa using hk3)
   have⟨i0,hi0⟩:=Classical.not_forall.1 hall;have⟨hi1,hi0⟩:=Classical.not_imp.1 hi0;have⟨hi2,hi3⟩:=Classical.not_imp.1 hi0;obtain⟨j,hjs,hjE,hjl,hjk⟩:=hmin i0 hi1 hi2 (by simpa using hi3);have hmem:j∈Region.ready .any ops listed:=by
    refine mem_ready.2 ⟨?_,ops[j],Array.getElem?_eq_getElem hjs,fun e he _=>?_⟩
    ·rw[Array.getD_eq_getD_getElem?,Array.getElem?_eq_getElem (by rw[hJ.lsize];exact hjs)]at hjl⊢;exact hjl
    ·obtain⟨hlt,hor⟩:=(F9 hok (Array.getElem?_eq_getElem hjs) hjE).2.2.2 e he;rcases hor with h|h
     ·exact hjk _ hlt h
     ·exact hJ.done _ h qO
   refine⟨fun h=>(by rw[h]at hmem;cases hmem),fun i hi=>?_⟩;obtain⟨h0,o,ho,hdep⟩:=mem_ready.1 hi;have his:=(aE.1 ho).1;have him:E i=true:=by
    cases hE:E i with
    |true=>rfl
    |false=>
     cases hD:D i with
     |true=>
      have:=hJ.done i hD his;rw[Array.getD_eq_getD_getElem?,Array.getElem?_eq_getElem (by rw[hJ.lsize];exact his)]at this h0;simp only[Option.getD_some]at this h0;rw[this]at h0;cases h0
     |false=>
      rcases Hm hok ho hE hD j hjs hjE with ⟨e,he,hes,heE,heD,heb⟩|⟨e,he,heo,heb⟩
      ·have h1:=hdep e he heb;have h2:=hJ.late _ heE hes;rw[heD]at h2;rw[h1]at h2;cases h2
      ·have:=hdep e he heb;rw[heo,hjl]at this;cases this
   obtain⟨hDi,hg,⟨d,hd,hdN⟩,hback⟩:=F9 hok ho him;unfold wpOp;rw[ho];dsimp only;rw[if_pos (by simp[Region.wanted,hg])];refine .inl ?_;refine Oper.wp_mono ?_ (hstep i o b v him ho hJ.below hJ.rest fun e he hb hEe o' d' ho' hd'=>hJ.good e.on o' d' hEe ho' hd' (hdep e he hb));rintro b' v' ⟨x,rfl,hG,hb⟩;have hbv:=hJ.below.trans (hb.mono hJ.below.size);refine⟨hS _ hbv,ih _ _ _ (by have:=left_eq h0;omega) ?_⟩;rw[hd];refine⟨hbv,by rw[nJ];exact hJ.size,by rw[put_defers];exact hJ.defers,?_,?_,by simpa using hJ.lsize,?_,?_⟩
   ·intro s hs;rw[bl _ _ _ _ (fun e=>hs i o him ho (by rw[hd,e]))];exact hJ.rest s hs
   ·intro j' oj dj hj' hoj hdj hlj;by_cases e:i=j'
    ·subst e;rw[ho]at hoj;obtain rfl:=Option.some.inj hoj;rw[hd]at hdj;obtain rfl:=Option.some.inj hdj;rw[iz _ _ _ (by rw[hJ.size];exact hdN)];exact hG
    ·have hap:=Co hok ho hoj him hj' e;rw[hd,hdj]at hap;rw[bl _ _ _ _ (fun h=>hap (by rw[h]))];refine hkeep _ _ _ _ (hJ.good j' oj dj hj' hoj hdj ?_) hb;rw[getD_set_ne false e]at hlj;exact hlj
   ·intro k hk hks;rw[getD_set_ne _ (fun e=>by rw[<-e,him]at hk;cases hk)];exact hJ.late k hk hks
   ·intro k hk hks;exact getD_set_true (hJ.done k hk hks)
def Kz(ops:Array Oper)(E:Nat->Bool)(s:Tmp):Bool:=(List.range ops.size).all fun i=>match ops[i]? with
 |some o=> !E i|| !(o.dst==some s)
 |none=>true
theorem bH{ops:Array Oper}{E:Nat->Bool}{s:Tmp}(h:Kz ops E s=true):∀(i:Nat)(o:Oper),E i=true->ops[i]? =some o->o.dst≠some s:=by
 intro i o hE ho e;unfold Kz at h;have h1:=List.all_eq_true.1 h i (List.mem_range.2 (aE.1 ho).1);rw[ho]at h1;simp[e,hE]at h1
theorem ri{P:Program}{ops:Array Oper}{Q:Exit->Act->World->Prop}{i k:Nat}{o:Oper}{t:TypeId}{x y:Operand}{u:Value}{b:Act}{v:World}{K:Act->World->Prop}(ho:ops[i]? =some o)(hg:o.guard=none)(hd:o.dst=none)
  (hop:o.op=.store t x y) (hx:b.eval x=.pointer (some ⟨k,0,none⟩)) (hk:Boxed v k t u) (hrun:(Instr.storeAt t (.pointer (some ⟨k,0,none⟩)) (b.eval y)).run P v=.ok () (v.setCell ⟨k,0,none⟩ (b.eval y)))
  (h:K b (v.setCell ⟨k,0,none⟩ (b.eval y))):wpOp P ops Q i K b v:=by
 unfold wpOp;rw[ho];dsimp only;rw[if_pos (by simp[Region.wanted,hg])];refine .inl ?_;unfold Oper.wp;have e:(execOp b.eval o).run P v=.ok .skip (v.setCell ⟨k,0,none⟩ (b.eval y)):=by
  simp[execOp,hop,hx,hrun,Result.andThen]
 rw[e];show K (b.put o.dst undef) _;rw[hd];exact h
theorem xH{P:Program}{o:Oper}{a:Act}{next:Act->World->Prop}{Q:Exit->Act->World->Prop}:∀r,o.upon P a next Q r->o.uponIn Fence.wide 0 P a next Q r
 | .ok (.value v) w',h=>h
 | .ok .skip w',h=>h
 | .ok (.defer d) w',h=>h
 | .ok (.enter f args) w',h=>⟨fun h=>absurd h qD,(callsIn_wide (n:=0)).2 h⟩
 | .ok (.row row args) w',h=>⟨fun h=>absurd h qD,fun c cs _=>let ⟨v,w',r,s⟩:=h c cs;⟨v,w',r,stepsIn_wide.2 s⟩⟩
 | .ok (.round l f tmps assign body) w',h=>(h:False).elim
 | .halt (.panic v) w',h=>h
theorem Pt{P:Program}{ops:Array Oper}{Q:Exit->Act->World->Prop}{i:Nat}(hno:¬LetsOut Q){K:Act->World->Prop}{a:Act}{w:World}(h:wpOp P ops Q i K a w):wpOpIn Fence.wide 0 P ops Q i K a w:=by
 unfold wpOp at h;unfold wpOpIn;cases ho:ops[i]? with
 |none=>rw[ho]at h;exact h
 |some o=>
  rw[ho]at h;dsimp only at h⊢;split
  ·rename_i hw;rw[if_pos hw]at h;rcases h with h|h
   ·exact⟨fun _ _=>trivial,xH _ h⟩
   ·exact absurd h.2 hno
  ·rename_i hw;rw[if_neg hw]at h;exact⟨fun _ _=>trivial,h⟩
theorem uG{P:Program}{md:Region.Mode}{ops:Array Oper}{Q:Exit->Act->World->Prop}(hno:¬LetsOut Q):
  ∀(fuel:Nat)(listed:Array Bool)(a:Act)(w:World),wpAny P md ops Q fuel listed a w->wpAnyIn Fence.wide 0 P md ops Q fuel listed a w
 |0,listed,a,w,h=>h
 |fuel+1,listed,a,w,h=>⟨h.1,fun i hi=>wpOpIn_mono (fun a' w' h'=>uG hno fuel _ a' w' h') (Pt hno (h.2 i hi))⟩
theorem uH{P:Program}{ops:Array Oper}{Q:Exit->Act->World->Prop}(S:World->Prop){id l:Nat}{a:Act}{w:World}(hm:P.follows .mixedOrders=true)(hd:Rf.kJ ops=true)(hno:¬LetsOut Q)
  (h:wpAnyH P .any ops Q S ops.size (Array.replicate ops.size false) a w.drew):(Code.region id ops true).wpIn (Fence.wide.inRound l) 0 P Q a w:=
 Rf.gj hm hd (uG hno _ _ _ _ (wpAny_of_held _ _ _ _ h))
theorem uI{P:Program}{ops:Array Oper}{Q:Exit->Act->World->Prop}{i:Nat}{f:FuncId}{o:Oper}{xs:Array Operand}{ts:Array TypeId}{args:Array Value}{b:Act}{v:World}{K:Act->World->Prop}{R:Value->World->Prop}(ho:ops[i]? =some o)(hg:o.guard=none)
  (hop:o.op=.call {callee:=.value (.func f),args:=xs,argTypes:=ts}) (ek:∀args w,(callFunc f args).run P w=.ok (.enter f args) w) (ha:xs.map b.eval=args) (hc:Calls P f args v fun e v'=>∃x,e=.returned x/\R x v') (h:∀x v',R x v'->K (b.put o.dst x) v'):wpOp P ops Q i K b v:=by
 unfold wpOp;rw[ho];dsimp only;rw[if_pos (by simp[Region.wanted,hg])];refine .inl ?_;unfold Oper.wp;have e:b.eval (.func f)=.func (.func f) #[] #[]:=rfl;have e2:(execOp b.eval o).run P v=.ok (.enter f args) v:=by
  simp[execOp,hop,resolve,invoke,e,ha,ek,go_sem]
 rw[e2];refine hc.mono ?_;rintro e v' ⟨x,rfl,hR⟩;exact h x v' hR
end Rg
namespace Rf
theorem nK{σ α:Type}{P:Program}{g:Operand}{ps:Array Tmp}{assign body:Code}{Q:Exit->Act->World->Prop}{a:Act}{w:World}{gf:Nat}{lb:Array Value}
  (hg:a.eval g=.func (.func gf) #[] lb) (eg:∀args w,(callFunc gf args).run P w=.ok (.enter gf args) w)
  (enc:α->Array Value) (hps:∀x,(enc x).size=ps.size)
  (I:σ->World->Prop) (Ix:Code->World->Prop) (V:σ->α->σ->World->Prop) (s0:σ) (E:σ->Prop)
  (hI:∀s,Calm w.heap.size (I s)) (hIx:∀c,Calm w.heap.size (Ix c)) (hV:∀s x s',Calm w.heap.size (V s x s')) (h0:I s0 w)
  (hseq:Seq P gf lb enc w I V s0 E)
  (hround:∀(l:Nat)(s:σ)(x:α)(s':σ)(X Z:World)(To:Exit->Act->World->Prop),I s X->V s x s' X->Z.heap.size=X.heap.size->
   Hid (∀b X',KeepsOthers X X'->I s' X'->To .normal b X')->Hid (∀b X',KeepsOthers X X'->Ix .ret X'->To .ret b X')->Hid (∀i b X',KeepsOthers X X'->Ix (.exit i) X'->To (.exit i) b X')->
   assign.wpIn (Fence.wide.inRound l) 0 P (Exit.then (fun a₁ Z'=>Below Z.heap.size Z Z'/\∀Y,Below X.heap.size X Y->(∀k,X.heap.size<=k->Y.heap[k]? =Z'.heap[k]?)->Y.heap.size=Z'.heap.size->
    body.wpIn (Fence.wide.inRound l) 0 P (sh To) a₁ Y) (fun _ _ _=>False)) {tmps:=(ps.zip (enc x)).foldl (fun t(p,v)=>t.setIfInBounds p v) a.tmps,defers:=[]} Z)
  (hdone:∀(D:Nat)(s:σ)(X:World),w.heap.size<=D->E s->I s X->X.heap[D]? =some (.deferred (some []))->Q .normal {a with defers:={target:=.collected D,args:=#[]}::a.defers} X)
  (hstop:∀(D:Nat)(c:Code)(X:World),w.heap.size<=D->Ix c X->X.heap[D]? =some (.deferred (some []))->c.wp P Q {a with defers:={target:=.collected D,args:=#[]}::a.defers} X):
  (Code.rangeFunc g ps assign body).wp P Q a w:=by
 refine(wpIn_wide (n:=0)).1 (wpIn_rangeFunc fun fn _=>?_);have hnc0:NC w.heap.size w ((w.alloc (.deferred (some []))).alloc (.loop (lp a ps assign body fn w.heap.size .ready none))):=(NC.alloc _ _).trans (NC.alloc _ _);have hheld:Held w.heap.size (lp a ps assign body fn w.heap.size .ready none) ((w.alloc (.deferred (some []))).alloc (.loop (lp a ps assign body fn w.heap.size .ready none))):=by
  constructor
  ·have:=World.alloc_heap_new (w.alloc (.deferred (some []))) (.loop (lp a ps assign body fn w.heap.size .ready none));rwa[World.size_alloc]at this
  ·exact(Below.heap_alloc _ _ _ qS).trans (World.alloc_heap_new w _)
 have hent:=run_enterLoop_outer (P:=P) (w:=w) fn a.tmps ps assign body;have hL:({state:=.ready,pending:=none,fn,tmps:=a.tmps,params:=ps,assign,body,defers:=w.heap.size}:Loop)=lp a ps assign body fn w.heap.size .ready none:=rfl;rw[hL]at hent;generalize (w.alloc (.deferred (some []))).alloc (.loop (lp a ps assign body fn w.heap.size .ready none))=W1 at hnc0 hheld hent;refine⟨w.heap.size+1,[{target:=.collected w.heap.size,args:=#[]}],W1,{target:=.fn (.func gf) lb,args:=#[.func (.yield (w.heap.size+1)) #[] #[]]},W1,gf,
  #[.func (.yield (w.heap.size+1)) #[] #[]]++lb,W1,hent,?_,fun _ _=>trivial,?_,(fun h=>absurd h qD),(callsIn_wide (n:=0)).2 ?_⟩
 ·simp only[resolve,hg];simp[go_sem]
 ·simp[invoke,go_sem,eg]
 refine(hseq (w.heap.size+1) (Held w.heap.size (lp a ps assign body fn w.heap.size .ready none))
  (fun X=>∃c,Ix c X/\Held w.heap.size (lp a ps assign body fn w.heap.size .done (some c)) X) _ hnc0 (hI _ _ _ h0 hnc0) hheld (fun _ _ h k=>h.keeps k) ?_).mono ?_
 ·intro s x s' X hi hB hv;refine⟨fn,_,assign,body,run_yield (P:=P) (args:=enc x) hB.rec_ (hps x),roundIn_of_wpIn trivial (wpIn_mono (hround _ s x s' (X.putObj (w.heap.size+1) (.loop (lp a ps assign body fn w.heap.size .busy none))) X (to (I s') Ix (X.putObj (w.heap.size+1) (.loop (lp a ps assign body fn w.heap.size .busy none)))) (hI _ _ _ hi (hB.nc qN (lp a ps assign body fn w.heap.size .busy none))) (hV _ _ _ _ _ hv (hB.nc qN (lp a ps assign body fn w.heap.size .busy none))) qS (fun _ _ h k=>⟨h,k⟩) (fun _ _ h k=>⟨h,k⟩) (fun _ _ _ h k=>⟨h,k⟩)) ?_)⟩;intro e a₁ Z' hq;cases e with
  |normal=>?_
  |_=>exact hq.elim
  obtain⟨hzb,hbd⟩:=hq;have hlt1:w.heap.size+1<X.heap.size:=(aE.1 hB.rec_).1;have hrec:Z'.heap[w.heap.size+1]? =some (.loop (lp a ps assign body fn w.heap.size .ready none)):=by rw[hzb.block _ hlt1];exact hB.rec_
  refine⟨_,run_beginRound hrec rfl,?_⟩;have hB2:=hB.put (lp a ps assign body fn w.heap.size .busy none);have hn2:=hB.nc qN (lp a ps assign body fn w.heap.size .busy none);have hY:Below (X.putObj (w.heap.size+1) (.loop (lp a ps assign body fn w.heap.size .busy none))).heap.size (X.putObj (w.heap.size+1) (.loop (lp a ps assign body fn w.heap.size .busy none))) (Z'.putObj (w.heap.size+1) (.loop (lp a ps assign body fn w.heap.size .busy none))):=by
   refine⟨hzb.os,hzb.tape,hzb.output,by simpa using hzb.size,fun k hk=>?_⟩;have hk':k<X.heap.size:=by simpa using hk
   by_cases e:k=w.heap.size+1
   ·subst e;rw[World.putObj_heap_same hlt1,World.putObj_heap_same (Nat.lt_of_lt_of_le hlt1 hzb.size)]
   ·rw[World.putObj_heap_other e,World.putObj_heap_other e];exact hzb.block k hk'
  refine wpIn_mono (wpIn_mono (hbd _ hY (fun k hk=>World.putObj_heap_other (by simp at hk;omega)) qS) TV) ?_;rintro e a3 X3 hp;cases e with
  |normal=>
   obtain⟨hk,hi3⟩:=hp;have hB3:=hB2.keeps hk;exact⟨_,_,fin none hB3,.inl ⟨rfl,hI _ _ _ hi3 (hB3.nc qN _),hB3.put _⟩⟩
  |ret=>
   obtain⟨hk,hi3⟩:=hp;have hB3:=hB2.keeps hk;exact⟨_,_,fin (some .ret) hB3,.inr ⟨rfl,.ret,hIx _ _ _ hi3 (hB3.nc qN _),hB3.put _⟩⟩
  |exit i=>
   obtain⟨hk,hi3⟩:=hp;have hB3:=hB2.keeps hk;exact⟨_,_,fin (some (.exit i)) hB3,.inr ⟨rfl,.exit i,hIx _ _ _ hi3 (hB3.nc qN _),hB3.put _⟩⟩
  |goto t=>
   obtain⟨hk,hi3⟩:=hp;have hB3:=hB2.keeps hk;exact⟨_,_,fin (some (.goto t)) hB3,.inr ⟨rfl,.goto t,hIx _ _ _ hi3 (hB3.nc qN _),hB3.put _⟩⟩
  |panic ch=>exact hp.elim
  |outgrown=>exact hp.elim
 ·rintro e X2 ⟨⟨v,rfl⟩,(⟨s,hE,hi,hB⟩|⟨c,hi,hB⟩)⟩
  ·exact⟨none,_,run_endLoop (P:=P) hB.rec_ (by simp[lp]),hdone _ s _ qN hE (hI _ _ _ hi (hB.nc qN _)) (hB.put _).defs⟩
  ·exact⟨some c,_,run_endLoop (P:=P) hB.rec_ (by simp[lp]),(wpIn_wide (n:=0)).2 (hstop _ c _ qN (hIx _ _ _ hi (hB.nc qN _)) (hB.put _).defs)⟩
section
variable {P:Program} {Q:Exit->Act->World->Prop}
theorem ah{o:Oper}{K:Act->World->Prop}{a:Act}{w:World}(h:o.wp P a w K Q):o.wpIn Fence.wide 0 P a w K Q:=⟨fun _ _=>trivial,Rg.xH _ h⟩
theorem je(r:Nat){o:Oper}{K:Act->World->Prop}{a:Act}{w:World}(hd:∀c,o.op≠ .defer c)(h:o.wp P a w K Q):o.wpIn (Fence.wide.inRound r) 0 P a w K Q:=by
 have h:=ah h;unfold Oper.wpIn at*;refine⟨h.1,?_⟩;have h2:=h.2;rw[Fence.wide_round,Oper.semAt_none]at h2;rw[show(Fence.wide.inRound r).round=some r from rfl,Oper.semAt_some r _ _ hd];exact h2
theorem oY{ops:Array Oper}(hno:¬LetsOut Q):∀(l:List Oper)(a:Act)(w:World),wpList P ops Q l a w->wpListIn Fence.wide 0 P ops Q l a w
 |[],a,w,h=>h
 |o::rest,a,w,h=>by
  unfold wpList at h;unfold wpListIn;split
  ·rename_i hw;rw[if_pos hw]at h;rcases h with h|h
   ·exact Oper.wpIn_mono (oY hno rest) (ah h)
   ·exact absurd h.2 hno
  ·rename_i hw;rw[if_neg hw]at h;exact⟨fun _ _=>trivial,oY hno rest _ _ h⟩
theorem list_round{ops:Array Oper}(r:Nat):∀(l:List Oper)(a:Act)(w:World),(∀o∈l,∀c,o.op≠ .defer c)->wpListIn Fence.wide 0 P ops Q l a w->wpListIn (Fence.wide.inRound r) 0 P ops Q l a w
 |[],a,w,_,h=>h
 |o::rest,a,w,hd,h=>by
  unfold wpListIn at h⊢;split
  ·rename_i hw;rw[if_pos hw]at h;refine Oper.wpIn_mono (fun a' w' h'=>list_round r rest a' w' (fun o ho=>hd o (List.mem_cons_of_mem _ ho)) h') ?_;unfold Oper.wpIn at*;refine⟨h.1,?_⟩;have h2:=h.2;rw[Fence.wide_round,Oper.semAt_none]at h2;rw[show(Fence.wide.inRound r).round=some r from rfl,Oper.semAt_some r _ _ (hd o qS)];exact h2
  ·rename_i hw;rw[if_neg hw]at h;exact⟨h.1,list_round r rest _ _ (fun o ho=>hd o (List.mem_cons_of_mem _ ho)) h.2⟩
def uJ(l:List Oper):Bool:=l.all fun o=>match o.op with
 | .defer _=>false
 |_=>true
theorem wd{l:List Oper}(h:uJ l=true):∀o∈l,∀c,o.op≠ .defer c:=by
 intro o ho c e;unfold uJ at h;rw[List.all_eq_true]at h;have:=h o ho;rw[e]at this;cases this
theorem plain_round{l:List Oper}{id r:Nat}{a:Act}{w:World}(hd:uJ l=true)(hno:¬LetsOut Q)(h:wpList P l.toArray Q l a w):(Code.region id l.toArray false).wpIn (Fence.wide.inRound r) 0 P Q a w:=
 wpIn_region_lit (list_round r l a w (wd hd) (oY hno l a w h))
theorem AF{ops:Array Oper}{id r:Nat}{a:Act}{w:World}(hm:P.follows .mixedOrders=true)(hd:kJ ops=true)(hno:¬LetsOut Q)
  (h:wpAny P .any ops Q ops.size (Array.replicate ops.size false) a w.drew):(Code.region id ops true).wpIn (Fence.wide.inRound r) 0 P Q a w:=
 gj hm hd (Rg.uG hno _ _ _ _ h)
end
abbrev Blk:=Nat->Prop
structure Fr(O:Blk)(X:World)(O':Blk)(X':World):Prop where
 size:X.heap.size<=X'.heap.size
 ext:∀k,O' k->k<X'.heap.size/\(O k∨X.heap.size<=k)
 same:∀k,k<X.heap.size->¬O k->X'.heap[k]? =X.heap[k]?
theorem Fr.of_below{O:Blk}{X X':World}(h:Below X.heap.size X X')(hO:∀k,O k->k<X.heap.size):Fr O X O X':=
 ⟨h.size,fun k hk=>⟨Nat.lt_of_lt_of_le (hO k hk) h.size,.inl hk⟩,fun k hk _=>h.block k hk⟩
theorem Fr.trans{O O1 O2:Blk}{X Y Z:World}(h:Fr O X O1 Y)(k:Fr O1 Y O2 Z):Fr O X O2 Z:=
 ⟨Nat.le_trans h.size k.size,fun i hi=>by
  obtain⟨h1,h2⟩:=k.ext i hi;refine⟨h1,?_⟩;rcases h2 with h2|h2
  ·exact(h.ext i h2).2
  ·exact .inr (Nat.le_trans h.size h2),fun i hi hn=>(k.same i (Nat.lt_of_lt_of_le hi h.size) fun ho=>by
   rcases(h.ext i ho).2 with h3|h3
   ·exact hn h3
   ·omega).trans (h.same i hi hn)⟩
theorem Fr.grown{O:Blk}{X X':World}{row:Option Nat}(h:X.grownBy X' row)(hO:∀k,O k->k<X.heap.size)(hr:∀k,row=some k->O k):Fr O X O X':=
 ⟨h.size,fun k hk=>⟨Nat.lt_of_lt_of_le (hO k hk) h.size,.inl hk⟩,fun k hk hn=>h.block k hk fun e=>hn (hr k e.symm)⟩
theorem Fr.setCell{O:Blk}(X:World)(k:Nat)(v:Value)(hO:∀k,O k->k<X.heap.size)(hk:O k):Fr O X O (X.setCell ⟨k,0,none⟩ v):=.grown (grownBy_setCell' X k v) hO (fun j e=>by cases e;exact hk)
theorem Fr.more{O O' P P' E:Blk}{X X':World}(h:Fr O X O' X')(e1:∀k,P k↔O k∨E k)(e2:∀k,P' k↔O' k∨E k)(hE:∀k,E k->k<X.heap.size):Fr P X P' X':=
 ⟨h.size,fun k hk=>by
  rcases(e2 k).1 hk with h1|h1
  ·exact⟨(h.ext k h1).1,(h.ext k h1).2.imp (fun h2=>(e1 k).2 (.inl h2)) id⟩
  ·exact⟨Nat.lt_of_lt_of_le (hE k h1) h.size,.inl ((e1 k).2 (.inr h1))⟩,fun k hk hn=>h.same k hk fun h1=>hn ((e1 k).2 (.inl h1))⟩
theorem Held.fr{D:Nat}{L:Loop}{O O':Blk}{X X':World}(h:Held D L X)(k:Fr O X O' X')(hO:∀k,O k->k≠D/\k≠D+1):Held D L X':=
 ⟨(k.same _ (aE.1 h.rec_).1 (fun e=>(hO _ e).2 rfl)).trans h.rec_,(k.same _ (aE.1 h.defs).1 (fun e=>(hO _ e).1 rfl)).trans h.defs⟩
end Rf
namespace Rgt
section
variable {P:Program} {md:Region.Mode} {ops:Array Oper} {Q:Exit->Act->World->Prop} {S:World->Prop} {T:Nat->Bool}
def eK(P:Program)(md:Region.Mode)(ops:Array Oper)(Q:Exit->Act->World->Prop)(S:World->Prop)(T:Nat->Bool):Nat->Array Bool->Act->World->Prop
 |0,listed,a,w=>Region.ready md ops listed=[]/\Q .normal a w
 |fuel+1,listed,a,w=>
  (Region.ready md ops listed=[]->Q .normal a w)/\
  ∀i∈Region.ready md ops listed,wpOp P ops Q i (fun a' w'=>(T i=false->S w')/\eK P md ops Q S T fuel (listed.setIfInBounds i true) a' w') a w
theorem yZ:∀(fuel:Nat)(listed:Array Bool)(a:Act)(w:World),eK P md ops Q S T fuel listed a w->wpAny P md ops Q fuel listed a w
 |0,_,_,_,h=>h
 |fuel+1,_,_,_,h=>⟨h.1,fun i hi=>wpOp_mono (fun a' w' h'=>yZ fuel _ a' w' h'.2) (h.2 i hi)⟩
def waits(md:Region.Mode)(ops:Array Oper)(T:Nat->Bool)(i:Nat):Bool:=
 (List.range ops.size).all fun t=> !T t||match ops[t]? with
  |some o=>o.after.toList.any fun e=>Region.binds md e&&e.on==i
  |none=>true
theorem Cp{i:Nat}(h:waits md ops T i=true){t:Nat}{o:Oper}(ho:ops[t]? =some o)(hT:T t=true):∃e∈o.after,Region.binds md e=true/\e.on=i:=by
 have h1:=List.all_eq_true.1 h t (List.mem_range.2 (aE.1 ho).1);simp only[hT,ho,Bool.not_true,Bool.false_or,List.any_eq_true,Bool.and_eq_true,beq_iff_eq]at h1;obtain⟨e,he,h2,h3⟩:=h1;exact⟨e,by simpa using he,h2,h3⟩
theorem first{i:Nat}{oi:Oper}{v:Value}(hi:ops[i]? =some oi)(hsel:∀(j:Nat)(o:Oper) cs b,ops[j]? =some o->o.op≠ .select cs b)(hT:waits md ops T i=true)
  (hQ:∀c a w,Q (.panic c) (a.put oi.dst v) w->Q (.panic c) a w):
  ∀(fuel:Nat)(listed:Array Bool)(a:Act)(w:World),
   (∀j oj,ops[j]? =some oj->j≠i->listed.getD j true=false->(∀e∈oj.after,Region.binds md e=true->e.on≠i)->oi.apart ops oj=true)->
   i∈Region.ready md ops listed->YieldsIf P ops S oi v a->S w->
   eK P md ops Q S T fuel (listed.setIfInBounds i true) (a.put oi.dst v) w->eK P md ops Q S T (fuel+1) listed a w:=by
 intro fuel;induction fuel with
 |zero=>
  intro listed a w _ hr hy hS H;refine⟨fun h=>(by rw[h]at hr;cases hr),fun j hj=>?_⟩;by_cases hji:j=i
  ·subst hji;exact hy.wpOp hi hS ⟨fun _=>hS,H⟩
  ·have:=ready_mono hj hji;rw[H.1]at this;cases this
 |succ fuel ih=>
  intro listed a w hfree hr hy hS H;refine⟨fun h=>(by rw[h]at hr;cases hr),fun j hj=>?_⟩;by_cases hji:j=i
  ·subst hji;exact hy.wpOp hi hS ⟨fun _=>hS,H⟩
  ·have h1:=H.2 j (ready_mono hj hji);obtain⟨hjun,oj,hoj,hall⟩:=mem_ready.1 hj;have hnot:∀e∈oj.after,Region.binds md e=true->e.on≠i:=fun e he hb heq=>by
    have h1:=hall e he hb;have h0:=(mem_ready.1 hr).1;rw[heq]at h1;rcases Nat.lt_or_ge i listed.size with h'|h'
    ·simp[h']at h0 h1;rw[h0]at h1;cases h1
    ·simp[Array.getElem?_eq_none h']at h1
   have hTj:T j=false:=by
    cases hb:T j with
    |false=>rfl
    |true=>
     obtain⟨e,he,hb1,hb2⟩:=Cp hT hoj hb;exact absurd hb2 (hnot e he hb1)
   have h2:=wpOp_putIf hoj (hfree j oj hoj hji hjun hnot) (fun cs b=>hsel i oi cs b hi) (fun cs b=>hsel j oj cs b hoj) hQ hy h1;have hfree':∀k ok,ops[k]? =some ok->k≠i->(listed.setIfInBounds j true).getD k true=false->
     (∀e∈ok.after,Region.binds md e=true->e.on≠i)->oi.apart ops ok=true:=fun k ok hk hki hun hno=>by
    refine hfree k ok hk hki ?_ hno;by_cases hjk:j=k
    ·subst hjk;exact hjun
    ·rw[getD_set_ne true hjk]at hun;exact hun
   refine wpOp_mono (fun a' w' h3=>⟨h3.2.1,ih (listed.setIfInBounds j true) a' w' hfree' (ready_mono hr (Ne.symm hji)) h3.1 (h3.2.1 hTj) ?_⟩) h2;rw[Array.setIfInBounds_comm _ _ hji];exact h3.2.2
variable {fuel:Nat} {listed:Array Bool} {a:Act} {w:World}
theorem take{i:Nat}{o:Oper}{d:Tmp}{x:Value}(hi:ops[i]? =some o)(hd:o.dst=some d)
  (hs:Region.noSelect ops=true) (hT:waits md ops T i=true) (hf:Region.free md ops listed i=true) (hr:(Region.ready md ops listed).contains i=true)
  (hQ:∀c a w,Q (.panic c) (a.put o.dst x) w->Q (.panic c) a w) (hy:YieldsIf P ops S o x a) (hS:S w)
  (h:eK P md ops Q S T fuel (listed.setIfInBounds i true) {a with tmps:=a.tmps.setIfInBounds d x} w):eK P md ops Q S T (fuel+1) listed a w:=
 first hi (Region.noSelect_spec hs) hT hQ fuel listed a w (Region.free_spec hi hf) (by simpa using hr) hy hS (by rw[hd];exact h)
theorem pT{i:Nat}{o:Oper}{K:Act->World->Prop}(ho:ops[i]? =some o)(hw:Region.wanted o (yielded ops a.tmps)=true)(h:o.wp P a w K Q):wpOp P ops Q i K a w:=by
 unfold wpOp;rw[ho];dsimp only;rw[if_pos hw];exact .inl h
theorem ready{i:Nat}{o:Oper}(hr:Region.ready md ops listed=[i])(ho:ops[i]? =some o)(hw:Region.wanted o (yielded ops a.tmps)=true)
  (h:∀K:Act->World->Prop,(∀a' w',S w'->eK P md ops Q S T fuel (listed.setIfInBounds i true) a' w'->K a' w')->o.wp P a w K Q):eK P md ops Q S T (fuel+1) listed a w:=
 ⟨fun h0=>(by rw[hr]at h0;cases h0),fun j hj=>by
  rw[hr]at hj;obtain rfl:j=i:=by simpa using hj
  exact pT ho hw (h _ fun a' w' h1 h2=>⟨fun _=>h1,h2⟩)⟩
theorem Cq{i:Nat}{o:Oper}(hr:Region.ready md ops listed=[i])(ht:T i=true)(ho:ops[i]? =some o)(hw:Region.wanted o (yielded ops a.tmps)=true)
  (h:∀K:Act->World->Prop,(∀a' w',eK P md ops Q S T fuel (listed.setIfInBounds i true) a' w'->K a' w')->o.wp P a w K Q):eK P md ops Q S T (fuel+1) listed a w:=
 ⟨fun h0=>(by rw[hr]at h0;cases h0),fun j hj=>by
  rw[hr]at hj;obtain rfl:j=i:=by simpa using hj
  exact pT ho hw (h _ fun a' w' h2=>⟨fun h0=>(by rw[ht]at h0;cases h0),h2⟩)⟩
theorem LC{i j:Nat}{o o':Oper}(hr:Region.ready md ops listed=[i,j])(ho:ops[i]? =some o)(ho':ops[j]? =some o')(hw:Region.wanted o (yielded ops a.tmps)=true)(hw':Region.wanted o' (yielded ops a.tmps)=true)
  (h:∀K:Act->World->Prop,(∀a' w',S w'->eK P md ops Q S T fuel (listed.setIfInBounds i true) a' w'->K a' w')->o.wp P a w K Q)
  (h':∀K:Act->World->Prop,(∀a' w',S w'->eK P md ops Q S T fuel (listed.setIfInBounds j true) a' w'->K a' w')->o'.wp P a w K Q):eK P md ops Q S T (fuel+1) listed a w:=
 ⟨fun h0=>(by rw[hr]at h0;cases h0),fun k hk=>by
  rw[hr]at hk;rcases(by simpa using hk:k=i∨k=j)with rfl|rfl
  ·exact pT ho hw (h _ fun a' w' h1 h2=>⟨fun _=>h1,h2⟩)
  ·exact pT ho' hw' (h' _ fun a' w' h1 h2=>⟨fun _=>h1,h2⟩)⟩
theorem done{listed:Array Bool}{a:Act}{w:World}(hr:Region.ready md ops listed=[])(h:Q .normal a w):∀fuel,eK P md ops Q S T fuel listed a w
 |0=>⟨hr,h⟩
 |_+1=>⟨fun _=>h,by rw[hr];simp⟩
end
section
variable {P:Program} {ops:Array Oper} {Q:Exit->Act->World->Prop} {a:Act} {w:World}
theorem region(S:World->Prop)(T:Nat->Bool){id:Nat}(hm:P.follows .mixedOrders=true)(h:eK P .any ops Q S T ops.size (Array.replicate ops.size false) a w.drew):(Code.region id ops true).wp P Q a w:=
 wp_region_any hm (yZ _ _ _ _ h)
theorem round(S:World->Prop)(T:Nat->Bool){id l:Nat}(hm:P.follows .mixedOrders=true)(hd:Rf.kJ ops=true)(hno:¬LetsOut Q)(h:eK P .any ops Q S T ops.size (Array.replicate ops.size false) a w.drew):(Code.region id ops true).wpIn (Fence.wide.inRound l) 0 P Q a w:=
 Rf.AF hm hd hno (yZ _ _ _ _ h)
end
end Rgt
namespace Rg
def okL(ops:Array Oper)(N:Nat):Bool:=
 (List.range ops.size).all (fun i=>match ops[i]? with
  |some o=>(match o.guard with|none=>true|some g=>o.after.any fun e=>decide (e.on=g.1)&&Region.binds .any e)&&(match o.dst with|some d=>decide (d<N)|none=>false)&&o.after.all (fun e=>decide (e.on<i)|| !Region.binds .any e)
  |none=>false)&&
 (List.range ops.size).all (fun i=>(List.range ops.size).all fun j=>decide (i=j)|| !((ops[i]?.map (·.dst))==(ops[j]?.map (·.dst))))
theorem Cr{ops:Array Oper}{N:Nat}(h:okL ops N=true){i:Nat}{o:Oper}(ho:ops[i]? =some o):
  (∀g,o.guard=some g->∃e∈o.after,e.on=g.1/\Region.binds .any e=true)/\(∃d,o.dst=some d/\d<N)/\∀e∈o.after,Region.binds .any e=true->e.on<i:=by
 have hi:=(aE.1 ho).1;unfold okL at h;rw[Bool.and_eq_true]at h;have h1:=List.all_eq_true.1 h.1 i (List.mem_range.2 hi);rw[ho]at h1;dsimp only at h1;rw[Bool.and_eq_true,Bool.and_eq_true]at h1;obtain⟨⟨h2,h3⟩,h4⟩:=h1;refine⟨?_,?_,?_⟩
 ·intro g hg;rw[hg]at h2;obtain⟨k,hk,hk2⟩:=Array.any_eq_true.1 h2;rw[Bool.and_eq_true,decide_eq_true_eq]at hk2;exact⟨_,Array.getElem_mem hk,hk2⟩
 ·cases hd:o.dst with
  |none=>rw[hd]at h3;cases h3
  |some d=>rw[hd]at h3;exact⟨d,rfl,by simpa using h3⟩
 ·intro e he hb;have:=Array.all_eq_true_iff_forall_mem.1 h4 e he;rw[hb]at this;simpa using this
theorem Hn{ops:Array Oper}{N:Nat}(h:okL ops N=true){i j:Nat}{o o':Oper}(ho:ops[i]? =some o)(ho':ops[j]? =some o')(hne:i≠j):o.dst≠o'.dst:=by
 have hi:=(aE.1 ho).1;have hj:=(aE.1 ho').1;unfold okL at h;rw[Bool.and_eq_true]at h;have h1:=List.all_eq_true.1 (List.all_eq_true.1 h.2 i (List.mem_range.2 hi)) j (List.mem_range.2 hj);rw[ho,ho']at h1;simp only[Option.map_some,Bool.or_eq_true,decide_eq_true_eq,hne,false_or,Bool.not_eq_true']at h1;intro e;rw[e]at h1;simp at h1
theorem Ho{P:Program}{ops:Array Oper}{Q:Exit->Act->World->Prop}{N:Nat}{G:Nat->Value->World->Prop}{a:Act}{w:World}(hok:okL ops N=true)
  (hkeep:∀i x v v',G i x v->Below v.heap.size v v'->G i x v')
  (hgd:∀(i:Nat)(o:Oper)(k:Nat)(t:Bool),ops[i]? =some o->o.guard=some (k,t)->∀x v,G k x v->x=.bool t)
  (hstep:∀(i:Nat)(o:Oper)(b:Act)(v:World),ops[i]? =some o->Below w.heap.size w v->(∀s,(∀(i:Nat)(o:Oper),ops[i]? =some o->o.dst≠some s)->b.tmps.getD s undef=a.tmps.getD s undef)->
   (∀e∈o.after,Region.binds .any e=true->∀(o':Oper)(d:Tmp),ops[e.on]? =some o'->o'.dst=some d->G e.on (b.tmps.getD d undef) v)->Does P G Q i o b v)
  (hend:∀b v,Below w.heap.size w v->b.tmps.size=N->b.defers=a.defers->(∀s,(∀(i:Nat)(o:Oper),ops[i]? =some o->o.dst≠some s)->b.tmps.getD s undef=a.tmps.getD s undef)->
   (∀(i:Nat)(o:Oper)(d:Tmp),ops[i]? =some o->o.dst=some d->G i (b.tmps.getD d undef) v)->Q .normal b v):
  ∀(fuel:Nat)(listed:Array Bool)(b:Act)(v:World),left listed<=fuel->J ops N G a w listed b v->wpAny P .any ops Q fuel listed b v:=by
 have hfin:∀(listed:Array Bool)(b:Act)(v:World),J ops N G a w listed b v->Region.ready .any ops listed=[]->Q .normal b v:=by
  intro listed b v hJ hr;refine hend b v hJ.below hJ.size hJ.defers hJ.rest ?_;have hall:∀i:Nat,i<ops.size->listed.getD i false=true:=by
   intro i;induction i using Nat.strongRecOn with
   |ind i ih=>
    intro hi;cases hb:listed.getD i false with
    |true=>rfl
    |false=>
     have hmem:i∈Region.ready .any ops listed:=by
      refine mem_ready.2 ⟨?_,ops[i],Array.getElem?_eq_getElem hi,fun e he hbe=>?_⟩
      ·rw[Array.getD_eq_getD_getElem?,Array.getElem?_eq_getElem (by rw[hJ.lsize];exact hi)]at hb⊢;exact hb
      ·have hlt:=(Cr hok (Array.getElem?_eq_getElem hi)).2.2 e he hbe;exact ih e.on hlt qO
     rw[hr]at hmem;cases hmem
  exact fun i o d ho hd=>hJ.good i o d ho hd (hall i (aE.1 ho).1)
 intro fuel;induction fuel with
 |zero=>
  intro listed b v hl hJ;have hr:Region.ready .any ops listed=[]:=by
   refine List.eq_nil_iff_forall_not_mem.2 fun i hi=>?_
   have:=(mem_ready.1 hi).1;rw[lH qO i]at this;cases this
  exact⟨hr,hfin _ _ _ hJ hr⟩
 |succ fuel ih=>
  intro listed b v hl hJ;refine⟨hfin _ _ _ hJ,fun i hi=>?_⟩;obtain⟨h0,o,ho,hdep⟩:=mem_ready.1 hi;obtain⟨hg,⟨d,hd,hdN⟩,hback⟩:=Cr hok ho;have hilt:=(aE.1 ho).1;unfold wpOp;rw[ho];dsimp only;have hwant:Region.wanted o (yielded ops b.tmps)=true:=by
   unfold Region.wanted;cases hgo:o.guard with
   |none=>rfl
   |some g=>
    obtain⟨k,t⟩:=g;obtain⟨e,he,hek,heb⟩:=hg _ hgo;dsimp only at hek⊢;have hlk:=hdep e he heb;have hlt:e.on<ops.size:=by have:=hback e he heb;omega
    obtain⟨_,⟨d',hd',hdN'⟩,_⟩:=Cr hok (Array.getElem?_eq_getElem hlt);have hx:=hgd i o k t ho hgo _ _ (hek▸hJ.good e.on _ d' (Array.getElem?_eq_getElem hlt) hd' hlk);unfold yielded;rw[<-hek,Array.getElem?_eq_getElem hlt];simp only[Option.bind_some,hd'];have hs2:d'<b.tmps.size:=by rw[hJ.size];exact hdN'
    rw[Array.getD_eq_getD_getElem?,Array.getElem?_eq_getElem hs2]at hx;rw[Array.getElem?_eq_getElem hs2];simp only[Option.getD_some]at hx;rw[hx];simp
  rw[if_pos hwant];refine .inl ?_;refine Oper.wp_mono ?_ (hstep i o b v ho hJ.below hJ.rest fun e he hb o' d' ho' hd'=>hJ.good e.on o' d' ho' hd' (hdep e he hb));rintro b' v' ⟨x,rfl,hG,hb⟩;refine ih _ _ _ (by have:=AD h0;omega) ?_;rw[hd];refine⟨hJ.below.trans (hb.mono hJ.below.size),by rw[nJ];exact hJ.size,by rw[put_defers];exact hJ.defers,?_,?_,by simpa using hJ.lsize⟩
  ·intro s hs;rw[bl _ _ _ _ (fun e=>hs i o ho (by rw[hd,e]))];exact hJ.rest s hs
  ·intro j oj dj hoj hdj hlj;by_cases e:i=j
   ·subst e;rw[ho]at hoj;obtain rfl:=Option.some.inj hoj;rw[hd]at hdj;obtain rfl:=Option.some.inj hdj;rw[iz _ _ _ (by rw[hJ.size];exact hdN)];exact hG
   ·have hap:=Hn hok ho hoj e;rw[hd,hdj]at hap;rw[bl _ _ _ _ (fun h=>hap (by rw[h]))];refine hkeep _ _ _ _ (hJ.good j oj dj hoj hdj ?_) hb;rw[getD_set_ne false e]at hlj;exact hlj
theorem y8{P:Program}{ops:Array Oper}{id:Nat}{Q:Exit->Act->World->Prop}{a:Act}{w:World}(hm:P.follows .mixedOrders=true)(G:Nat->Value->World->Prop)(hok:okL ops a.tmps.size=true)
  (hkeep:∀i x v v',G i x v->Below v.heap.size v v'->G i x v')
  (hgd:∀(i:Nat)(o:Oper)(k:Nat)(t:Bool),ops[i]? =some o->o.guard=some (k,t)->∀x v,G k x v->x=.bool t)
  (hstep:∀(i:Nat)(o:Oper)(b:Act)(v:World),ops[i]? =some o->Below w.heap.size w v->(∀s,(∀(i:Nat)(o:Oper),ops[i]? =some o->o.dst≠some s)->b.tmps.getD s undef=a.tmps.getD s undef)->
   (∀e∈o.after,Region.binds .any e=true->∀(o':Oper)(d:Tmp),ops[e.on]? =some o'->o'.dst=some d->G e.on (b.tmps.getD d undef) v)->Does P G Q i o b v)
  (hend:∀b v,Below w.heap.size w v->b.tmps.size=a.tmps.size->b.defers=a.defers->(∀s,(∀(i:Nat)(o:Oper),ops[i]? =some o->o.dst≠some s)->b.tmps.getD s undef=a.tmps.getD s undef)->
   (∀(i:Nat)(o:Oper)(d:Tmp),ops[i]? =some o->o.dst=some d->G i (b.tmps.getD d undef) v)->Q .normal b v):
  (Code.region id ops true).wp P Q a w:=by
 refine wp_region_any hm (Ho (a:=a) (w:=w) hok hkeep hgd hstep hend _ _ _ _ ?_ ⟨qB.drew,rfl,rfl,fun _ _=>rfl,?_,qS⟩)
 ·unfold left;simp
 ·intro i o d ho _ hl;have hi:=(aE.1 ho).1;simp[Array.getD_eq_getD_getElem?,hi]at hl
end Rg
