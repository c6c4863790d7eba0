/- Am17 -/
import Derived.Test.YteldgablpehcpaaGreatDoorAl17
set_option linter.unusedVariables false
set_option linter.unusedSimpArgs false
set_option maxRecDepth 100000
set_option maxHeartbeats 8000000
namespace Go.Proofs.YteldgablpehcpaaGreatDoor
open Go.RowKit
theorem Ki(W:World):(Instr.makeSlice 22 (.int .i64 16) (.int .i64 16)).run Tryz.prog W=.ok (.slice (some ⟨W.heap.size,0,none⟩) 16 16) (W.alloc (.cells (bytesV (List.replicate 16 0)).toArray 5)):=by
 obtain⟨i,hh,hz0,hz1,hz2⟩:=info_parts ao;have:=run_make (P:= Tryz.prog) W 22 5 i (.int .u8 0) Tryz.underlying22 hh hz0 .i64 .i64 16 16 qO qO (by rw[hz2];omega) qO;rw[this,hz1];have e:madeCells (Value.int IntKind.u8 0).cells (Int.toNat 16*1)=(bytesV (List.replicate 16 0)).toArray:=qK;rw[e];rfl
def Apt17(ST:L8)(y:Value)(p:Nat)(v:World):Prop:=
 ∃o c xs,y=.slice o ST.length c/\RowIs v o xs c/\Els v ST xs/\(∀a,o=some a->a.block≠p)/\∀a q k,Value.slice (some a) q k∈xs->a.block≠p
theorem Apt17.later{ST:L8}{y:Value}{p:Nat}{v v':World}(h:Apt17 ST y p v)(hb:Below v.heap.size v v'):Apt17 ST y p v':=by
 obtain⟨o,c,xs,h1,h2,h3,h4,h5⟩:=h;exact⟨o,c,xs,h1,h2.later hb,h3.later hb,h4,h5⟩
theorem Apt17.set{ST:L8}{y:Value}{p:Nat}{v:World}(h:Apt17 ST y p v)(C:Array Value):RbV ST y (v.setRow p C):=by
 obtain⟨o,c,xs,h1,h2,h3,h4,h5⟩:=h;exact⟨o,c,h1,xs,my h2 h4 C,qY h3 (kn v p C) fun a q k hm e=>h5 a q k hm (by injection e with e;exact e.symm)⟩
theorem RbF.apt17{m p:Nat}{ST:L8}{y:Value}{v:World}(h:RbF m ST y v)(hp:p<m):Apt17 ST y p v:=by
 obtain⟨o,c,xs,h1,h2,h3,h4,h5,_⟩:=h;exact⟨o,c,xs,h1,h2,h3,fun a e=>by have:=h4 a e;omega,fun a q k hm=>by have:=h5 a q k hm;omega⟩
theorem RbV.apt17{ST:L8}{y:Value}{v:World}(h:RbV ST y v)(h0:0<ST.length)(h8:∀i,i<ST.length->0<(bi ST i).length):Apt17 ST y v.heap.size v:=by
 obtain⟨o,c,h1,xs,h2,h3⟩:=h;refine⟨o,c,xs,h1,h2,h3,fun a e=>?_,fun a q k hm=>Nat.ne_of_lt (Cb h3 h8 a q k hm)⟩;obtain⟨b,off,e2,hlt,_⟩:=h2.cells (by rw[h3.len];exact h0);rw[e]at e2;cases e2
 exact Nat.ne_of_lt hlt
theorem RbV.later17{bs:L8}{x:Value}{w w':World}(h:RbV bs x w)(hb:Below w.heap.size w w'):RbV bs x w':=by
 obtain⟨o,c,e,h⟩:=h;exact⟨o,c,e,h.later hb⟩
theorem Cj{W:World}{g c:Nat}{o:Option Addr}{F:BL}{T:TypeId}{fr:Nat×Nat}{n:Int}{o1 o2:Option Addr}{l1 c1 l2 c2:Nat}(hg:W.heap[g]? =some (.cells #[.int .i64 n,.slice o1 l1 c1,.slice o2 l2 c2] T fr))(hr:RowIs W o (bytesV F) c)(hF:0<F.length):∀a,o=some a->a.block≠g:=fun a e e2=>by
 obtain⟨b,off,e3,_,hc⟩:=hr.cells (by simp;exact hF);rw[e]at e3;cases e3
 have h1:=hc 0 _ (aB F 0 hF);have e2:b=g:=e2;subst e2;unfold World.cell? at h1;rw[hg]at h1
 match off,h1 with
 |0,h1=>simp at h1
 |1,h1=>simp at h1
 |2,h1=>simp at h1
 |k+3,h1=>simp at h1
structure Same17(p:Nat)(v v':World):Prop where
 grown:v.grownBy v' (some p)
 size:v'.heap.size=v.heap.size
 cell:∀a,v'.cell? a=v.cell? a
 at_:∀C T fr,v.heap[p]? =some (.cells C T fr)->∃fr',v'.heap[p]? =some (.cells C T fr')
theorem Yq{v:World}{p:Nat}{C:Array Value}{fr:Nat×Nat}(h:v.heap[p]? =some (.cells C 5 fr))(n c:Nat):∃v',(convert 22 22 (.slice (some ⟨p,0,none⟩) n c)).run Tryz.prog v=.ok (.slice (some ⟨p,0,none⟩) n c) v'/\Same17 p v v':=by
 have hsh:v.shape? p=some (5,C.size):=by
  unfold World.shape?;rw[h]
 obtain⟨lo,hi⟩:=fr;have hlt:=(aE.1 h).1;have hfz:∀k,∃fr',(v.freeze ⟨p,k,none⟩ 1).heap[p]? =some (.cells C 5 fr'):=fun k=>by
  unfold World.freeze;rw[if_neg qD];simp only[Array.getElem?_modify,if_true,h,Option.map_some];exact⟨_,rfl⟩
 have hfo:∀k q,q≠p->(v.freeze ⟨p,k,none⟩ 1).heap[q]? =v.heap[q]? :=fun k q hq=>by
  unfold World.freeze;rw[if_neg qD];simp only[Array.getElem?_modify];rw[if_neg (fun e=>hq e.symm)]
 have hsz:∀k,(v.freeze ⟨p,k,none⟩ 1).heap.size=v.heap.size:=fun k=>by
  unfold World.freeze;rw[if_neg qD];simp
 refine⟨v.freeze ⟨p,C.size,none⟩ 1,?_,⟨?_,hsz _,fun a=>?_,fun C' T fr' h'=>?_⟩⟩
 ·simp[convert,run_underlying Tryz.underlying22,run_underlying Tryz.underlying5,markStringish,hsh]
 ·refine⟨rfl,rfl,rfl,by rw[hsz];exact Nat.le_refl _,fun k hk hne=>hfo _ k (fun e=>hne (by rw[e]))⟩
 ·obtain⟨fr',hf⟩:=hfz C.size;unfold World.cell?;by_cases e:a.block=p
  ·rw[e,hf,h]
  ·rw[hfo _ _ e]
 ·rw[h]at h';cases h'
  exact hfz _
theorem RowIs.same17{v v':World}{p c:Nat}{o:Option Addr}{xs:List Value}(h:RowIs v o xs c)(hs:Same17 p v v'):RowIs v' o xs c:=
 ⟨h.le,h.cap,h.nil,fun h0=>by
  obtain⟨b,off,e,hlt,hc⟩:=h.cells h0;exact⟨b,off,e,by rw[hs.size];exact hlt,fun i u hu=>by rw[hs.cell];exact hc i u hu⟩⟩
theorem Els.same17{v v':World}{p:Nat}{bs:L8}{xs:List Value}(h:Els v bs xs)(hs:Same17 p v v'):Els v' bs xs:=
 ⟨h.len,fun i x hx=>by
  obtain⟨o,c,e,hr⟩:=h.at_ i x hx;exact⟨o,c,e,hr.same17 hs⟩⟩
def D17(i:Nat):Nat:=[8,9,10,11,12,7,13,14,2].getD i 0
theorem F1:∀i,i<9->∀k,k<9->i≠k->D17 i≠D17 k:=qD
theorem Po:∀i,i<9->D17 i<33:=qD
def AlG17(PA Z:Array Value)(m0 i:Nat)(x:Value)(v:World):Prop:=
 match i with
 |0=>∃p,x=.slice (some ⟨p,0,none⟩) 16 16/\RowIs v (some ⟨p,0,none⟩) (bytesV (List.replicate 16 0)) 16
 |1=>∃p,x=.slice (some ⟨p,0,none⟩) 2 2/\RowIs v (some ⟨p,0,none⟩) (bytesV lG) 2/\m0<=p/\∃fr,v.heap[p]? =some (.cells (bytesV lG).toArray 5 fr)
 |2=>∃p,x=.slice (some ⟨p,0,none⟩) 2 2/\RowIs v (some ⟨p,0,none⟩) (bytesV lG) 2
 |3=>x=.agg PA
 |7=>x=.nilIface
 |8=>∃p,x=.pointer (some ⟨p,0,none⟩)/\m0<=p/\v.heap[p]? =some (.cells Z 57 (0,0))
 |_=>True
theorem AlG17.later{PA Z:Array Value}{m0 i:Nat}{x:Value}{v v':World}(h:AlG17 PA Z m0 i x v)(hb:Below v.heap.size v v'):AlG17 PA Z m0 i x v':=by
 unfold AlG17 at h⊢;split at h
 ·obtain⟨p,e,h⟩:=h;exact⟨p,e,h.later hb⟩
 ·obtain⟨p,e,h,hm,fr,hh⟩:=h;exact⟨p,e,h.later hb,hm,fr,by rw[hb.block p (aE.1 hh).1];exact hh⟩
 ·obtain⟨p,e,h⟩:=h;exact⟨p,e,h.later hb⟩
 ·exact h
 ·exact h
 ·obtain⟨p,e,h0,h⟩:=h;exact⟨p,e,h0,by rw[hb.block p (aE.1 h).1];exact h⟩
 ·trivial
def Y17(SL:Value->Array Value)(i:Nat)(x y:Value):Prop:=if i=6 then x=.agg (SL y)else x=.tuple #[.agg (SL y),.nilIface]
structure AlJ(PA Z:Array Value)(SL:Value->Array Value)(ST:L8)(T:Array Value)(w0:World)(C:Nat->Bool)(b:Act)(v:World):Prop where
 size:b.tmps.size=33
 defers:b.defers=[]
 below:Below w0.heap.size w0 v
 rest:∀s,(∀i,i<9->D17 i≠s)->b.tmps.getD s undef=T.getD s undef
 good:∀i,i<9->C i=true->AlG17 PA Z w0.heap.size i (b.tmps.getD (D17 i) undef) v
 yy:∀i,i=4∨i=5∨i=6->C i=true->∃y,Y17 SL i (b.tmps.getD (D17 i) undef) y/\RbV ST y v/\∀p,C 8=true->b.tmps.getD 2 undef=.pointer (some ⟨p,0,none⟩)->Apt17 ST y p v
theorem AlG17.same{PA Z:Array Value}{m0 i p:Nat}{x:Value}{v v':World}(h:AlG17 PA Z m0 i x v)(hs:Same17 p v v')(hu:∃C fr,v.heap[p]? =some (.cells C 5 fr)):AlG17 PA Z m0 i x v':=by
 obtain⟨C,fr,hu⟩:=hu;unfold AlG17 at h⊢;split at h
 ·obtain⟨q,e,h⟩:=h;exact⟨q,e,h.same17 hs⟩
 ·obtain⟨q,e,h,hm,fr2,hh⟩:=h;refine⟨q,e,h.same17 hs,hm,?_⟩;by_cases ep:q=p
  ·subst ep;exact hs.at_ _ _ _ hh
  ·exact⟨fr2,by rw[hs.grown.block q (aE.1 hh).1 (fun e=>ep (by injection e))];exact hh⟩
 ·obtain⟨q,e,h⟩:=h;exact⟨q,e,h.same17 hs⟩
 ·exact h
 ·exact h
 ·obtain⟨q,e,h0,h⟩:=h;refine⟨q,e,h0,?_⟩;rw[hs.grown.block q (aE.1 h).1 (fun e=>?_)]
  ·exact h
  ·injection e with e
   subst e;rw[hu]at h;injection h with h
   injection h with _ h2 _
   exact absurd h2 qD
 ·trivial
theorem AlJ.same{PA Z:Array Value}{SL:Value->Array Value}{ST:L8}{T:Array Value}{w0:World}{C:Nat->Bool}{b:Act}{v v':World}{p:Nat}(h:AlJ PA Z SL ST T w0 C b v)(hs:Same17 p v v')(hp:w0.heap.size<=p)(hu:∃C fr,v.heap[p]? =some (.cells C 5 fr)):AlJ PA Z SL ST T w0 C b v':=
 ⟨h.size,h.defers,h.below.grown hs.grown h.below.size (fun k e=>by cases e;exact hp),h.rest,fun i hi hc=>(h.good i hi hc).same hs hu,fun i hi hc=>by
  obtain⟨y,h1,⟨o,c,e,xs,h2,h3⟩,h4⟩:=h.yy i hi hc;refine⟨y,h1,⟨o,c,e,xs,h2.same17 hs,h3.same17 hs⟩,fun q hc8 hq=>?_⟩;obtain⟨o',c',xs',k1,k2,k3,k4,k5⟩:=h4 q hc8 hq;exact⟨o',c',xs',k1,k2.same17 hs,k3.same17 hs,k4,k5⟩⟩
theorem AlJ.put{PA Z:Array Value}{SL:Value->Array Value}{ST:L8}{T:Array Value}{w0:World}{C:Nat->Bool}{b:Act}{v:World}(h:AlJ PA Z SL ST T w0 C b v){i:Nat}(hi:i<9){x:Value}{v':World}(hb:Below v.heap.size v v')(hG:AlG17 PA Z w0.heap.size i x v')
  (hY:i=4∨i=5∨i=6->∃y,Y17 SL i x y/\RbV ST y v'/\∀p,C 8=true->b.tmps.getD 2 undef=.pointer (some ⟨p,0,none⟩)->Apt17 ST y p v') (h8:i=8->∀p,x=.pointer (some ⟨p,0,none⟩)->∀y,RbV ST y v->Apt17 ST y p v'):
  AlJ PA Z SL ST T w0 (fun k=>decide (k=i)||C k) (b.put (some (D17 i)) x) v':=by
 refine⟨by rw[Rg.nJ];exact h.size,h.defers,h.below.trans (hb.mono h.below.size),fun s hs=>by rw[Rg.bl _ _ _ _ (hs i hi)];exact h.rest s hs,fun k hk hc=>?_,fun k hk hc=>?_⟩
 ·by_cases e:k=i
  ·subst e;rw[Rg.iz _ _ _ (by rw[h.size];exact Po _ hi)];exact hG
  ·have hc':C k=true:=by simpa[e]using hc
   rw[Rg.bl _ _ _ _ (F1 i hi k hk (Ne.symm e))];exact(h.good k hk hc').later hb
 ·by_cases e:k=i
  ·subst e;obtain⟨y,h1,h2,h3⟩:=hY hk;refine⟨y,by rw[Rg.iz _ _ _ (by rw[h.size];exact Po _ hi)];exact h1,h2,fun p hc8 hp=>?_⟩;have e8:¬8=k:=qO;rw[Rg.bl _ _ 2 _ (by rcases hk with rfl|rfl|rfl<;>decide)]at hp;exact h3 p (by simpa[e8]using hc8) hp
  ·have hc':C k=true:=by simpa[e]using hc
   obtain⟨y,h1,h2,h3⟩:=h.yy k hk hc';refine⟨y,by rw[Rg.bl _ _ _ _ (F1 i hi k qO (Ne.symm e))];exact h1,h2.later17 hb,fun p hc8 hp=>?_⟩;by_cases e8:i=8
   ·subst e8;have hp2:(b.put (some 2) x).tmps.getD 2 undef=.pointer (some ⟨p,0,none⟩):=hp;rw[Rg.iz _ 2 _ (by rw[h.size];decide)]at hp2;exact h8 rfl p hp2 y h2
   ·rw[Rg.bl _ _ 2 _ (F1 i hi 8 qO e8)]at hp;exact(h3 p (by simpa[Ne.symm e8]using hc8) hp).later hb
