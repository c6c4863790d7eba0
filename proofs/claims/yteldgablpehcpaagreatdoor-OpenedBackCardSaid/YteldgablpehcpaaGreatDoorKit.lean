/- Kit -/
import Derived.Test.YteldgablpehcpaaGreatDoorRows
import Derived.WalkKit
import Derived.ProofKit
import Derived.OpenShut
import Derived.Carry
import Derived.Deep.DeepHandedRow
import Derived.Deep.DeepWitnessRowRef
import Derived.LaidMore
import Derived.LaidLaws
import Derived.Deep.QuietTactic
set_option linter.unusedVariables false
set_option linter.unusedSimpArgs false
set_option maxRecDepth 100000
set_option maxHeartbeats 8000000
namespace Go.Proofs.YteldgablpehcpaaGreatDoor
open Go.RowKit
section
open Go.ChangeShapes Go.WideShapes Go.ChangeAt
namespace Kit
theorem step{w a b:World}(h:Below w.heap.size w a)(k:Below a.heap.size a b):Below w.heap.size w b:=h.trans (k.mono h.size)
theorem dn{B:Nat}{a w:World}(h:Below B a w)(n:Nat):Below B a (w.drewN n):=h.trans ⟨rfl,rfl,rfl,Nat.le_refl _,fun _ _=>rfl⟩
theorem dn' (w:World)(n:Nat):Below w.heap.size w (w.drewN n):=dn (Below.refl _ _) n
def Dn(w w':World):Prop:=∃n,w'=w.drewN n
theorem Dn.refl(w:World):Dn w w:=⟨0,rfl⟩
theorem Dn.add{w w':World}(h:Dn w w')(n:Nat):Dn w (w'.drewN n):=by
 obtain⟨m,rfl⟩:=h;exact⟨m+n,by rw[World.drewN_drewN]⟩
theorem Dn.below{w w':World}(h:Dn w w'):Below w.heap.size w w':=by
 obtain⟨m,rfl⟩:=h;exact dn' w m
theorem uF{H:Type}{enc:TypeId×Value->H}{P:Program}(hl:laidOutB P=true){W W':World}(hb:Below W.heap.size W W'):
  ∀{ts:List TypeId}{vs:List Value}{ds:List (DataW H)}{ps:List MemPlace},(ts.all fun t=>P.readableRec t&&decide (t<P.types.size))=true->
   DataW.TrodAll enc P W 0 (fun _=>true) true ts vs ds ps->(∀x∈ps,x.block<W.heap.size)->DataW.TrodAll enc P W' 0 (fun b=>decide (b<W.heap.size)) true ts vs ds ps
 |[],[],[],_,_,h,_=>h
 |[],[],_::_,_,_,h,_=>h.elim
 |[],_::_,_,_,_,h,_=>h.elim
 |_::_,[],_,_,_,h,_=>h.elim
 |_::_,_::_,[],_,_,h,_=>h.elim
 |t::ts,v::vs,d::ds,ps,hr,h,hlt=>by
  simp only[List.all_cons,Bool.and_eq_true,decide_eq_true_eq]at hr;obtain⟨p,q,h1,h2,rfl⟩:=h;exact⟨p,q,Below.trod hl hr.1.1 hr.1.2 h1 hb (fun x hx=>hlt x (List.mem_append_left _ hx)),uF hl hb (by simpa using hr.2) h2 (fun x hx=>hlt x (List.mem_append_right _ hx)),rfl⟩
theorem law_post{H:Type}{enc:TypeId×Value->H}{P:Program}{f:Func}{s:ChangeSpec}{tb:TypeId}{W W':World}{args:Array Value}{ds gs:List (DataW H)}{before:List MemPlace}
  (hl:laidOutB P=true) (hp:(f.params.toList.all fun t=>P.readableRec t&&decide (t<P.types.size))=true) (hr:f.resultTypes=#[tb]) (htb:P.underlying tb=some .bool) (hv:s.vars=[])
  (hfn:s.fn H (ds++gs)={results:=[.lit (.bool true)],args:=ds})
  (hW:DataW.Whole enc P f.params.toList s.vars false W args.toList ds gs before) (hb:Below W.heap.size W W'):
  s.post enc P f false true false false W args (.bool true) W':=by
 have hlt:=hW.lt;have hW0:=hW;obtain⟨p,q,hA,hV,rfl,hz,hn⟩:=hW;refine⟨ds,gs,p++q,[],p,[],hW0,?_,?_,?_,hb.frame _,fun h=>by cases h⟩
 ·rw[hfn,hr];exact trodAll_mk1 (shut_bool htb true)
 ·rw[hfn];exact uF hl hb hp hA (fun x hx=>hlt x (List.mem_append_left _ hx))
 ·rw[hfn,hv];rfl
def Ps{H:Type}(text:List UInt8):DataW H:=.iface "*errors.errorString" (.ptr (.agg [.lit (.string text)]))
structure SentAt(tp:TypeId)(W:World)(g:Nat)(a:Addr):Prop where
 cell:W.cell? ⟨g,0,none⟩=some (.iface tp (.pointer (some a)))
 block:∃c t,W.heap[a.block]? =some (.cells c t (0,0))
theorem row_one(a:Addr):MemPlace.row a 1=[.cell a.block a.off]:=by simp[MemPlace.row]
theorem pS{P:Program}{W:World}{ti tp te ts:TypeId}{ms:Array (String×TypeId)}{f:Field}
  (hi:P.underlying ti=some (.interface ms)) (hrow:∀u,P.typeName? 3 u=some "*errors.errorString" ->u=tp)
  (hp:P.underlying tp=some (.pointer te)) (he:P.underlying te=some (.struct #[f])) (hft:f.type=ts) (hfo:f.offset=0) (hs:P.underlying ts=some .string) (hc:P.cellsOf te=1) (hcs:P.cellsOf ts=1):
  ∀(L:List (String×Nat×List UInt8))(ps:List MemPlace),DataW.LaidVars P W (L.map fun x=>(x.1,Ps x.2.2)) ps->ps.Nodup->
   (∀b off,MemPlace.cell b off∈ps->(∃c t,W.heap[b]? =some (.cells c t (0,0)))/\∀u v,W.cell? ⟨b,off,none⟩=some (.iface u v)->Value.okWide P W .any 0 u v)->
   (L.all fun x=>P.globalNamed x.1==some x.2.1&&((P.globals[x.2.1]?).map (·.type)==some ti))=true->
   ∃al:List Addr,al.length=L.length/\al.Nodup/\(∀a∈al,MemPlace.cell a.block a.off∈ps)/\∀(i:Nat)(x:String×Nat×List UInt8)(a:Addr),L[i]? =some x->al[i]? =some a->SentAt tp W x.2.1 a
 |[],ps,h,hnd,hrows,hg=>⟨[],rfl,List.nodup_nil,fun a ha=>(by cases ha),fun i x a hx=>(by simp at hx)⟩
 |(n,gn,text)::L,ps,h,hnd,hrows,hg=>by
  simp only[List.all_cons,Bool.and_eq_true,beq_iff_eq]at hg;obtain⟨g,t,cs,fu,p,q,hg0,ht0,hv0,hd0,hrest,rfl⟩:=h;obtain rfl:=Option.some.inj (hg.1.1.symm.trans hg0);obtain rfl:=Option.some.inj (hg.1.2.symm.trans ht0);obtain⟨l0⟩:=cs;have hmem:∀u v,l0=[.iface u v]->Value.okWide P W .any 0 u v:=fun u v e=>by
   subst e;exact(hrows gn 0 (by simp[MemPlace.row])).2 u v (by simpa using World.var?_cell hg0 hv0 0)
  obtain⟨a,s,rfl,hcell,hst,hsz,rfl⟩:=errorString_of_trod hi hrow hp he hft hfo hs hc hcs hd0 hmem;have hnd2:=List.nodup_append.1 hnd;obtain⟨al,hlen,hasn,hin,hat⟩:=pS hi hrow hp he hft hfo hs hc hcs L q hrest hnd2.2.1 (fun b off hb=>hrows b off (List.mem_append_right _ hb)) (by simpa using hg.2);refine⟨a::al,by simp[hlen],?_,?_,?_⟩
  ·refine List.nodup_cons.2 ⟨fun ha=>?_,hasn⟩;exact hnd2.2.2 (.cell a.block a.off) (by simp[row_one]) _ (hin a ha) rfl
  ·intro b hb;cases List.mem_cons.1 hb with
   |inl e=>subst e;simp[row_one]
   |inr e=>exact List.mem_append_right _ (hin b e)
  ·intro i x b hx hb;cases i with
   |zero=>
    simp only[List.getElem?_cons_zero,Option.some.injEq]at hx hb;subst hx;subst hb;exact⟨by simpa using World.var?_cell hg0 hv0 0,(hrows a.block a.off (by simp[row_one])).1⟩
   |succ i=>exact hat i x b (by simpa using hx) (by simpa using hb)
structure Sents(tp:TypeId)(W:World)(L:List (String×Nat×List UInt8))(A:Nat->Addr):Prop where
 inj:∀i j,i<L.length->j<L.length->A i=A j->i=j
 at_:∀(i:Nat)(x:String×Nat×List UInt8),L[i]? =some x->SentAt tp W x.2.1 (A i)
theorem sents_of_met{P:Program}{W:World}{ti tp te ts:TypeId}{ms:Array (String×TypeId)}{f:Field}{laid:List (String×DataW Unit)}(L:List (String×Nat×List UInt8))
  (hi:P.underlying ti=some (.interface ms)) (hrow:∀u,P.typeName? 3 u=some "*errors.errorString" ->u=tp)
  (hp:P.underlying tp=some (.pointer te)) (he:P.underlying te=some (.struct #[f])) (hft:f.type=ts) (hfo:f.offset=0) (hs:P.underlying ts=some .string) (hc:P.cellsOf te=1) (hcs:P.cellsOf ts=1)
  (hlaid:laid=L.map fun x=>(x.1,Ps x.2.2))
  (hg:(L.all fun x=>P.globalNamed x.1==some x.2.1&&((P.globals[x.2.1]?).map (·.type)==some ti))=true)
  (h:laidMetH P laid W):∃A,Sents tp W L A:=by
 have hnone:∀L:List (String×Nat×List UInt8),(L.map fun x=>(x.1,(Ps x.2.2:DataW Unit))).filter (fun x=>x.2.handleName?.isSome)=[]:=by
  intro L;induction L with
  |nil=>rfl
  |cons x L ih=>
   rw[List.map_cons,List.filter_cons,if_neg (by simp[Ps,DataW.handleName?]),ih]
 have h':laidMet P laid W:=by
  unfold laidMetH at h;rw[hlaid,hnone L]at h;rw[hlaid];exact h
 rw[hlaid]at h';obtain⟨ps,hv,hnd,hrows⟩:=h';obtain⟨al,hlen,hasn,hin,hat⟩:=pS hi hrow hp he hft hfo hs hc hcs L ps hv hnd hrows hg;refine⟨fun i=>al.getD i ⟨0,0,none⟩,?_,?_⟩
 ·intro i j hi hj he;have h1:i<al.length:=by omega
  have h2:j<al.length:=by omega
  simp only[List.getD_eq_getElem?_getD,List.getElem?_eq_getElem h1,List.getElem?_eq_getElem h2,Option.getD_some]at he;exact(List.getElem_inj hasn).1 he
 ·intro i x hx;have h1:i<al.length:=by rw[hlen];exact(List.getElem?_eq_some_iff.1 hx).1
  have:=hat i x al[i] hx (List.getElem?_eq_getElem h1);simpa[List.getD_eq_getElem?_getD,List.getElem?_eq_getElem h1]using this
end Kit
end
theorem Lh {p : Prop} (h : p) : Hid p := h
theorem Ks {w a b : World} (h : Below w.heap.size w a) (k : Below a.heap.size a b) : Below w.heap.size w b := Kit.step h k
theorem aE {α : Type} {xs : Array α} {i : Nat} {a : α} : xs[i]? = some a ↔ ∃ h : i < xs.size, xs[i] = a := Array.getElem?_eq_some_iff
abbrev BL:=List UInt8
abbrev L8:=List BL
theorem qM{α:Sort _}(a:α):∃x,a=x:=⟨a,rfl⟩
theorem qK{p:Prop}(h:p:=by kernel_rfl):p:=h
theorem qO{p:Prop}(h:p:=by omega):p:=h
theorem qS{p:Prop}(h:p:=by simp):p:=h
theorem qD{p:Prop}(h:p:=by decide):p:=h
theorem qG{p:Prop}(h:p:=by(go_simp<;>with_reducible rfl)):p:=h
theorem qI{α β γ:Sort _}{p:α->β->γ->Prop}(a:α)(b:β)(c:γ)(h:p a b c):p a b c:=h
theorem qB{n:Nat}{w:World}:Below n w w:=Below.refl _ _
theorem qN{n:Nat}:n<=n:=Nat.le_refl _
theorem qP{P:Program}{ops:Array Oper}{Q}{rest:List Oper}{o:Oper}{a a':Act}{w w':World}(h:wpList P ops Q rest a' w')(hg:o.guard=none:=by rfl)(k:∀K:Act->World->Prop,(∀b v,(b=a'/\v=w')->K b v)->o.wp P a w K Q:=by(intro K hK;go_simp;exact hK _ _ ⟨rfl,rfl⟩)):wpList P ops Q (o::rest) a w:=
 wpList_plain hg (fun K hK=>k K (fun b v e=>hK _ _ (by rw[e.1,e.2];exact h)))
theorem qA{α:Type _}(l:List α)(i:Nat)(a:α):l.toArray.setIfInBounds i a=(l.set i a).toArray:=List.setIfInBounds_toArray _ _ _
theorem qZ{α:Type _}{x a:α}{l:List α}:(x::l).set 0 a=a::l:=rfl
theorem qC{α:Type _}{x a:α}{l:List α}{n:Nat}:(x::l).set (n+1) a=x::l.set n a:=rfl
