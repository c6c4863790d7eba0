/- Op15 -/
import Derived.Test.YteldgablpehcpaaGreatDoorGn
set_option linter.unusedVariables false
set_option linter.unusedSimpArgs false
set_option maxRecDepth 100000
set_option maxHeartbeats 8000000
namespace Go.Proofs.YteldgablpehcpaaGreatDoor
open Go.RowKit
structure Pm15 where
 sz:Int
 se:Int
 sp:Int
 pe:Int
 pa:Int
 re:Int
def bG(n:Int):Prop:= -9223372036854775808<=n/\n<=9223372036854775807
structure Pm15.ok(p:Pm15):Prop where
 sz:bG p.sz
 se:bG p.se
 sp:bG p.sp
 pe:bG p.pe
 pa:bG p.pa
 re:bG p.re
def pmL(p:Pm15):List Value:=[.int .i64 p.sz,.int .i64 p.se,.int .i64 p.sp,.int .i64 p.pe,.int .i64 p.pa,.int .i64 p.re]
def pmA(p:Pm15):Array Value:=#[.int .i64 p.sz,.int .i64 p.se,.int .i64 p.sp,.int .i64 p.pe,.int .i64 p.pa,.int .i64 p.re]
def Da.ae(n:Int):Nat:=gi (nbk n.toNat)
def Da.aU(p:Pm15):Nat:=
 if p.sz<0∨2000<p.sz then 1
 else if p.se<0∨8<p.se then 2
 else if p.sp<1∨12<p.sp∨(Da.ae p.sz:Int)+p.se<p.sp then 3
 else if p.pe<1∨10000<p.pe then 4
 else if p.pa<1∨p.pe<p.pa then 5
 else if p.re<0∨5<p.re then 6
 else 0
def Da.ef(k:Nat):Nat:=match k with
 |0=>0
 |1=>8
 |2=>18
 |_=>1
def Da.js(k:Nat):BL:=match k with
 |0=>[]
 |1=>[115,105,122,101]
 |2=>[115,101,110,116,105,110,101,108,115]
 |3=>[115,112,111,116,115]
 |4=>[112,101,114,105,111,100]
 |5=>[112,97,116,105,101,110,99,101]
 |_=>[114,101,116,114,105,101,115]
def Da.cH(p:Pm15)(k:Nat):Int:=match k with
 |0=>0
 |1=>p.sz
 |2=>p.se
 |3=>p.sp
 |4=>p.pe
 |5=>p.pa
 |_=>p.re
theorem Da.fO(p:Pm15):Da.aU p<=6:=by
 unfold Da.aU;repeat (first|omega|split)
theorem Da.dW{k:Nat}(h:k<=6):Da.ef k=0↔k=0:=by
 match k,h with
 |0,_|1,_|2,_|3,_|4,_|5,_|6,_=>simp[Da.ef]
structure Da.Right15(p:Pm15):Prop where
 s0:0<=p.sz
 s1:p.sz<=2000
 e0:0<=p.se
 e1:p.se<=8
 t0:1<=p.sp
 t1:p.sp<=12
 t2:p.sp<=(Da.ae p.sz:Int)+p.se
 p0:1<=p.pe
 p1:p.pe<=10000
 a0:1<=p.pa
 a1:p.pa<=p.pe
 r0:0<=p.re
 r1:p.re<=5
theorem Da.cN{p:Pm15}(h:Da.aU p=0):Da.Right15 p:=by
 unfold Da.aU at h;split at h
 ·cases h
 split at h
 ·cases h
 split at h
 ·cases h
 split at h
 ·cases h
 split at h
 ·cases h
 split at h
 ·cases h
 constructor<;>omega
theorem Dp{H:Type}{enc:TypeId×Value->H}{P:Program}{W:World}{fuel:Nat}{t:TypeId}{f0 f1 f2 f3 f4 f5:Field}{l:List Value}{y:DataW H×List MemPlace}
  (ht:P.underlying t=some (.struct #[f0,f1,f2,f3,f4,f5])) (o0:f0.offset=0) (o1:f1.offset=1) (o2:f2.offset=2) (o3:f3.offset=3) (o4:f4.offset=4) (o5:f5.offset=5)
  (c0:P.cellsOf f0.type=1) (c1:P.cellsOf f1.type=1) (c2:P.cellsOf f2.type=1) (c3:P.cellsOf f3.type=1) (c4:P.cellsOf f4.type=1) (c5:P.cellsOf f5.type=1)
  (u0:P.underlying f0.type=some (.int .i64)) (u1:P.underlying f1.type=some (.int .i64)) (u2:P.underlying f2.type=some (.int .i64)) (u3:P.underlying f3.type=some (.int .i64)) (u4:P.underlying f4.type=some (.int .i64)) (u5:P.underlying f5.type=some (.int .i64))
  (hsl:l.length=6) (hf:DataW.trod enc P W 0 (fun _=>true) true fuel t l=some y):∃q:Pm15,l=pmL q/\q.ok:=by
 obtain⟨ys,nn,_,hx,hl,hlen,hg⟩:=DataW.trod_struct ht hf;have hy5:ys.length=6:=hlen;have g0:=hg 0 f0 rfl;have g1:=hg 1 f1 rfl;have g2:=hg 2 f2 rfl;have g3:=hg 3 f3 rfl;have g4:=hg 4 f4 rfl;have g5:=hg 5 f5 rfl;rw[List.getElem?_eq_getElem qO]at g0 g1 g2 g3 g4 g5;simp only[Value.cells,o0,o1,o2,o3,o4,o5,c0,c1,c2,c3,c4,c5,List.drop_zero]at g0 g1 g2 g3 g4 g5;have one:∀k(hk:k<6),(l.drop k).take 1=[l[k]' qO]:=fun k hk=>by
  rw[List.drop_eq_getElem_cons qO];rfl
 have z0:=one 0 qO;rw[List.drop_zero]at z0;rw[z0]at g0;rw[one 1 qO]at g1;rw[one 2 qO]at g2;rw[one 3 qO]at g3;rw[one 4 qO]at g4;rw[one 5 qO]at g5;obtain⟨k0,hk0,_,hw0⟩:=DataW.trod_int u0 g0;obtain⟨k1,hk1,_,hw1⟩:=DataW.trod_int u1 g1;obtain⟨k2,hk2,_,hw2⟩:=DataW.trod_int u2 g2;obtain⟨k3,hk3,_,hw3⟩:=DataW.trod_int u3 g3;obtain⟨k4,hk4,_,hw4⟩:=DataW.trod_int u4 g4;obtain⟨k5,hk5,_,hw5⟩:=DataW.trod_int u5 g5;refine⟨⟨k0,k1,k2,k3,k4,k5⟩,?_,⟨i64_wf hw0,i64_wf hw1,i64_wf hw2,i64_wf hw3,i64_wf hw4,i64_wf hw5⟩⟩;have e0:l[0]' qO=.int .i64 k0:=by simpa using hk0
 have e1:l[1]' qO=.int .i64 k1:=by simpa using hk1
 have e2:l[2]' qO=.int .i64 k2:=by simpa using hk2
 have e3:l[3]' qO=.int .i64 k3:=by simpa using hk3
 have e4:l[4]' qO=.int .i64 k4:=by simpa using hk4
 have e5:l[5]' qO=.int .i64 k5:=by simpa using hk5
 match l,hsl,e0,e1,e2,e3,e4,e5 with
 |[x0,x1,x2,x3,x4,x5],_,e0,e1,e2,e3,e4,e5=>
  simp only[List.getElem_cons_zero,List.getElem_cons_succ]at e0 e1 e2 e3 e4 e5;subst e0 e1 e2 e3 e4 e5;rfl
def mdA(kv:Value)(n:Int)(fv:Value)(p:Pm15):Array Value:=#[kv,.int .i64 n,fv,.int .i64 p.sz,.int .i64 p.se,.int .i64 p.sp,.int .i64 p.pe,.int .i64 p.pa,.int .i64 p.re]
theorem open_made16{H:Type}{enc:TypeId×Value->H}{P:Program}{W:World}{r:Reach}{base:Nat}{t e8:TypeId}{f0 f1 f2 f3 g0 g1 g2 g3 g4 g5:Field}{v:Value}{d:DataW H}{p:List MemPlace}
  (ht:P.underlying t=some (.struct #[f0,f1,f2,f3])) (hct:P.cellsOf t=9) (o0:f0.offset=0) (o1:f1.offset=1) (o2:f2.offset=2) (o3:f3.offset=3)
  (c0:P.cellsOf f0.type=1) (c1:P.cellsOf f1.type=1) (c2:P.cellsOf f2.type=1) (c3:P.cellsOf f3.type=6)
  (u0:P.underlying f0.type=some (.slice e8)) (u1:P.underlying f1.type=some (.int .i64)) (u2:P.underlying f2.type=some (.slice e8)) (h8:P.underlying e8=some (.int .u8)) (c8:P.cellsOf e8=1)
  (u3:P.underlying f3.type=some (.struct #[g0,g1,g2,g3,g4,g5])) (p0:g0.offset=0) (p1:g1.offset=1) (p2:g2.offset=2) (p3:g3.offset=3) (p4:g4.offset=4) (p5:g5.offset=5)
  (d0:P.cellsOf g0.type=1) (d1:P.cellsOf g1.type=1) (d2:P.cellsOf g2.type=1) (d3:P.cellsOf g3.type=1) (d4:P.cellsOf g4.type=1) (d5:P.cellsOf g5.type=1)
  (v0:P.underlying g0.type=some (.int .i64)) (v1:P.underlying g1.type=some (.int .i64)) (v2:P.underlying g2.type=some (.int .i64)) (v3:P.underlying g3.type=some (.int .i64)) (v4:P.underlying g4.type=some (.int .i64)) (v5:P.underlying g5.type=some (.int .i64))
  (hval:Value.okWide P W r base t v) (h:DataW.Trod enc P W 0 (fun _=>true) true t v d p) (hlt:∀x∈p,x.block<W.heap.size):
  ∃(ok:Option Addr)(ck:Nat)(K:BL)(n:Int)(of:Option Addr)(cf:Nat)(F:BL)(q:Pm15),v=.agg (mdA (.slice ok K.length ck) n (.slice of F.length cf) q)/\RowIs W ok (bytesV K) ck/\RowIs W of (bytesV F) cf/\bG n/\q.ok:=by
 obtain⟨cs,rfl,hsz⟩:∃cs,v=.agg cs/\cs.size=P.cellsOf t:=by
  simp only[Value.okWide,ht]at hval;obtain⟨cs,h1,h2,_⟩:=hval;exact⟨cs,h1,h2⟩
 obtain⟨fuel,hf⟩:=h;obtain⟨ys,nn,_,hx,hl,hlen,hg⟩:=DataW.trod_struct ht hf;rw[hct]at hsz;have hy5:ys.length=4:=hlen;have q0:=hg 0 f0 rfl;have q1:=hg 1 f1 rfl;have q2:=hg 2 f2 rfl;have q3:=hg 3 f3 rfl;rw[List.getElem?_eq_getElem qO]at q0 q1 q2 q3;simp only[Value.cells,o0,o1,o2,o3,c0,c1,c2,c3,List.drop_zero]at q0 q1 q2 q3;simp only[Prod.mk.injEq]at hx;obtain⟨rfl,rfl⟩:=hx;obtain⟨l⟩:=cs;have hsl:l.length=9:=by simpa using hsz
 have one:∀k(hk:k<9),(l.drop k).take 1=[l[k]' qO]:=fun k hk=>by
  rw[List.drop_eq_getElem_cons qO];rfl
 have z0:=one 0 qO;rw[List.drop_zero]at z0;rw[z0]at q0;rw[one 1 qO]at q1;rw[one 2 qO]at q2;obtain⟨ok,ck,K,e0,r0⟩:=jA u0 h8 c8 q0 (fun x hx=>hlt x (List.mem_flatMap.2 ⟨_,List.getElem_mem _,hx⟩));obtain⟨k1,hk1,_,hw1⟩:=DataW.trod_int u1 q1;obtain⟨of,cf,F,e2,r2⟩:=jA u2 h8 c8 q2 (fun x hx=>hlt x (List.mem_flatMap.2 ⟨_,List.getElem_mem _,hx⟩));obtain⟨q,e3,hq⟩:=Dp u3 p0 p1 p2 p3 p4 p5 d0 d1 d2 d3 d4 d5 v0 v1 v2 v3 v4 v5 (by simp[hsl]) q3;refine⟨ok,ck,K,k1,of,cf,F,q,?_,r0,r2,i64_wf hw1,hq⟩;congr 1
 apply Array.toList_inj.1;have e1:l[1]' qO=.int .i64 k1:=by simpa using hk1
 match l,hsl,e0,e1,e2,e3 with
 |[x0,x1,x2,x3,x4,x5,x6,x7,x8],_,e0,e1,e2,e3=>
  simp only[List.getElem_cons_zero,List.getElem_cons_succ]at e0 e1 e2;subst e0 e1 e2;have e4:[x3,x4,x5,x6,x7,x8]=pmL q:=by simpa using e3
  show[_,_,_,x3,x4,x5,x6,x7,x8]=_;rw[e4];rfl
