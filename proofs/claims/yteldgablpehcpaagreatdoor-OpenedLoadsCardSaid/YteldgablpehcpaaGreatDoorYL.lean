/- YL -/
import Derived.Test.YteldgablpehcpaaGreatDoorAn17
import Derived.Test.YteldgablpehcpaaGreatDoorErr
import Derived.Test.YteldgablpehcpaaGreatDoorAl17
import Derived.Test.YteldgablpehcpaaGreatDoorCm17
import Derived.Test.YteldgablpehcpaaGreatDoorOrb
import Derived.Test.YteldgablpehcpaaGreatDoorVr2
import Derived.Test.YteldgablpehcpaaGreatDoorOp15
import Derived.Test.YteldgablpehcpaaGreatDoorIns
set_option linter.unusedVariables false
set_option linter.unusedSimpArgs false
set_option maxRecDepth 100000
set_option maxHeartbeats 8000000
namespace Go.Proofs.YteldgablpehcpaaGreatDoor
open Go.RowKit
namespace Da
def gw(bs:BL)(k:Nat):List UInt32:=tb (fun t=>if t<k then part bs t 4 else 0) 64
end Da
section
open Go.Extern.Stop Go.Stop Go.Extern
namespace Er
theorem qz(v:Value)(w:World):(Extern.ReflectliteType.typeOf #[.iface 302 v]).run Tryz.prog w=.ok (.iface 207 (.agg #[.pointer (some ⟨24,302,none⟩)])) w:=qK
theorem mP(w:World):(callFunc 254 #[.agg #[.pointer (some ⟨24,302,none⟩)]]).run Tryz.prog w=.ok (Next.value (.bool true)) w:=by
 have h:= @run_callFunc_extern Tryz.prog 254 _ (Extern.ReflectliteType.method fun t=>do Rtype.noPackHeld "Comparable" t;pure (.bool (<-typeInfo t).comparable)) Tryz.func254 qK qK qK qK #[.agg #[.pointer (some ⟨24,302,none⟩)]] w;have r:((Extern.ReflectliteType.method fun t=>do Rtype.noPackHeld "Comparable" t;pure (.bool (<-typeInfo t).comparable)) #[.agg #[.pointer (some ⟨24,302,none⟩)]]).run Tryz.prog w=.ok (.bool true) w:=qK;rw[h,r];rfl
theorem gA(v:Value)(w:World):(Go.method 440 207 v "Comparable").run Tryz.prog w=.ok (254,v) w:=qK
theorem ut:(Tryz.prog.info? 302).map (·.comparable)=some true:=qK
theorem uv:(Tryz.prog.info? 328).map (·.size)=some 1:=qK
theorem GT(v:Value)(xT:TypeId)(w:World):(Instr.typeAssert (.iface 302 v) xT 209 true).run Tryz.prog w=.ok (.tuple #[.nilIface,.bool false]) w:=run_typeAssert_lacksB Tryz.underlying209 qK qK v xT w
theorem lO(v:Value)(xT:TypeId)(w:World):(Instr.typeAssert (.iface 302 v) xT 212 true).run Tryz.prog w=.ok (.tuple #[.nilIface,.bool false]) w:=run_typeAssert_lacksB Tryz.underlying212 qK qK v xT w
theorem jp(v:Value)(xT:TypeId)(w:World):(Instr.typeAssert (.iface 302 v) xT 214 true).run Tryz.prog w=.ok (.tuple #[.nilIface,.bool false]) w:=run_typeAssert_lacksB Tryz.underlying214 qK qK v xT w
theorem Q2(a:Addr)(w:World):
  Calls Tryz.prog 40 #[.iface 302 (.pointer (some a)),.iface 302 (.pointer (some a))] w fun e w'=>e=.returned (.bool true)/\w=w':=by
 obtain⟨i,hi,hcmp⟩:=Option.map_eq_some_iff.1 ut;obtain⟨j,hj,hjs⟩:=Option.map_eq_some_iff.1 uv;have h8:= @run_callFunc_extern Tryz.prog 76 _ Extern.ReflectliteType.typeOf Tryz.func76 qK qK qK qK;have tT:=qz;have cT:=mP;have mR:=gA;have heq:=run_eql_iface_ptr_same (P:= Tryz.prog) w a Tryz.underlying34 Tryz.underlying302 hi hcmp hj;go_enter Tryz.func40,Tryz.ntmps40
 go_wp2
 refine wp_loop_rounds 1 ?_;rw[rounds_succ];go_wp2
 go_ret;exact⟨rfl,rfl⟩
theorem ML(a b:Addr)(w:World)(hne:a≠b)(ha:∃c t,w.heap[a.block]? =some (.cells c t (0,0)))(hb:∃c t,w.heap[b.block]? =some (.cells c t (0,0))):
  Calls Tryz.prog 40 #[.iface 302 (.pointer (some a)),.iface 302 (.pointer (some b))] w fun e w'=>e=.returned (.bool false)/\w=w':=by
 obtain⟨ca,ta,ha⟩:=ha;obtain⟨cb,tb,hb⟩:=hb;obtain⟨i,hi,hcmp⟩:=Option.map_eq_some_iff.1 ut;obtain⟨j,hj,hjs⟩:=Option.map_eq_some_iff.1 uv;have h8:= @run_callFunc_extern Tryz.prog 76 _ Extern.ReflectliteType.typeOf Tryz.func76 qK qK qK qK;have tT:=qz;have cT:=mP;have mR:=gA;have nE:=GT;have uE:=lO;have vE:=jp;have heq:=run_eql_iface_ptr_other (P:= Tryz.prog) w Tryz.underlying34 Tryz.underlying302 hi hcmp hj (by rw[hjs];decide) hne ha hb;go_enter Tryz.func40,Tryz.ntmps40
 go_wp2
 refine wp_loop_rounds 1 ?_;rw[rounds_succ];go_wp2
 go_ret;exact⟨rfl,rfl⟩
theorem rA(w:World):
  Calls Tryz.prog 16 #[.nilIface] w fun e w'=>e=.returned (.int .i64 0)/\w=w':=by
 go_enter Tryz.func16,Tryz.ntmps16
 go_wp2
 go_ret;exact⟨rfl,rfl⟩
def Tf(w:World)(A:Nat->Addr)(k:Nat)(v:Value)(wr:World):Prop:=
 ∃(i:Nat)(C:Array Value),i<=k/\v=.int .i64 i/\(∀j,j<20->C[j]? =some (.iface 302 (.pointer (some (A j)))))/\wr=w.alloc (.cells C 34)
theorem pq(A:Nat->Addr)(k:Nat)(hk:k<20)(w:World)(hE:Errs w A):
  Calls Tryz.prog 16 #[.iface 302 (.pointer (some (A k)))] w fun e w'=>e=.returned (.int .i64 (k+1:Nat))/\Below w.heap.size w w':=by
 have HE:=Lh hE;obtain⟨inj,c0,c1,c2,c3,c4,c5,c6,c7,c8,c9,c10,c11,c12,c13,c14,c15,c16,c17,c18,c19,hbl⟩:=hE;have HI:=Lh inj;clear inj hbl;go_enter Tryz.func16,Tryz.ntmps16
 go_wp2
 go_loopw [31] (fun v wr=>Tf w A k v wr) (fun v _=>20-(intOf v).toNat)
 case atStart=>
  refine⟨0,_,qO,rfl,?_,rfl⟩;intro j hj
  match j,hj with
  |0,_|1,_|2,_|3,_|4,_|5,_|6,_|7,_|8,_|9,_|10,_|11,_|12,_|13,_|14,_|15,_|16,_|17,_|18,_|19,_=>rfl
  |n+20,h=>omega
 case round=>
  clear c0 c1 c2 c3 c4 c5 c6 c7 c8 c9 c10 c11 c12 c13 c14 c15 c16 c17 c18 c19;obtain⟨i,C,hi,rfl,hC,rfl⟩:=hrel;have hCi:=hC i qO;have HC:=Lh hC;clear hC;have hi20:i<20:=qO;have hE2:Errs (w.alloc (.cells C 34)) A:=HE.out.later (qB.alloc qN _);have hbi:=hE2.block i hi20;have hbk:=hE2.block k hk;have HBI:=Lh hbi;have HBK:=Lh hbk;clear hE2 hbi hbk;by_cases h:i=k
  ·subst h;go_wp2_with (go_at_call 40;refine(Q2 _ _).mono ?_;rintro e w' ⟨rfl,rfl⟩)
   go_ret;exact⟨by go_num,qB.alloc qN _⟩
  ·have hne:A k≠A i:=fun e=>h (HI.out k i hk hi20 e).symm
   go_wp2_with (go_at_call 40;refine(ML _ _ _ hne HBK.out HBI.out).mono ?_;rintro e w' ⟨rfl,rfl⟩)
   go_roundw
   case rel=>exact⟨i+1,C,qO,by go_num,HC.out,rfl⟩
   case measure=>simp[intOf];omega
theorem Tg(v:Value)(xT:TypeId)(w:World):(Instr.typeAssert (.iface 157 v) xT 209 true).run Tryz.prog w=.ok (.tuple #[.nilIface,.bool false]) w:=run_typeAssert_lacksB Tryz.underlying209 qK qK v xT w
theorem uw(v:Value)(xT:TypeId)(w:World):(Instr.typeAssert (.iface 157 v) xT 212 true).run Tryz.prog w=.ok (.tuple #[.iface 157 v,.bool true]) w:=run_typeAssert_hasB Tryz.underlying212 qK v xT w
theorem Am(v:Value)(w:World):(Go.method 440 157 v "Unwrap").run Tryz.prog w=.ok (250,v) w:=qK
def ee:Prop:=∀(W:World)(a:Addr)(v:Value),W.cell? ⟨a.block,a.off+2,none⟩=some v->a.spot=none->Calls Tryz.prog 250 #[.pointer (some a)] W fun e w'=>e=.returned v/\W=w'
theorem Q3(U:ee)(b:Nat)(x y:Addr)(w:World)(hc:w.cell? ⟨b,2,none⟩=some (.iface 302 (.pointer (some x))))(hx:∃c t,w.heap[x.block]? =some (.cells c t (0,0)))(hy:∃c t,w.heap[y.block]? =some (.cells c t (0,0))):
  Calls Tryz.prog 77 #[.iface 157 (.pointer (some ⟨b,0,none⟩)),.iface 302 (.pointer (some y)),.bool true] w fun e w'=>e=.returned (.bool (decide (x=y)))/\w=w':=by
 obtain⟨ca,ta,hx⟩:=hx;obtain⟨cb,tb,hy⟩:=hy;obtain⟨i,hi,hcmp⟩:=Option.map_eq_some_iff.1 ut;obtain⟨j,hj,hjs⟩:=Option.map_eq_some_iff.1 uv;have nE:=GT;have uE:=lO;have vE:=jp;have nW:=Tg;have uW:=uw;have mW:=Am;have heqW:=fun v u=>run_eql_iface_types (P:= Tryz.prog) (ti:= 34) 157 302 v u Tryz.underlying34 qD w
 have HU:=Lh (U w ⟨b,0,none⟩ _ hc rfl);clear U hc;by_cases hxy:x=y
 ·subst hxy;have heq:=run_eql_iface_ptr_same (P:= Tryz.prog) w x Tryz.underlying34 Tryz.underlying302 hi hcmp hj;go_enter Tryz.func77,Tryz.ntmps77
  go_wp2_with fail;refine wp_loop_rounds 2 ?_;rw[rounds_succ];go_wp2_with fail;refine HU.out.mono ?_;rintro e w1 ⟨rfl,rfl⟩;go_wp2_with fail;rw[rounds_succ];go_wp2_with fail;go_ret;exact⟨qS,rfl⟩
 ·have heq:=run_eql_iface_ptr_other (P:= Tryz.prog) w Tryz.underlying34 Tryz.underlying302 hi hcmp hj (by rw[hjs];decide) hxy hx hy;go_enter Tryz.func77,Tryz.ntmps77
  go_wp2_with fail;refine wp_loop_rounds 2 ?_;rw[rounds_succ];go_wp2_with fail;refine HU.out.mono ?_;rintro e w1 ⟨rfl,rfl⟩;go_wp2_with fail;rw[rounds_succ];go_wp2_with fail;go_ret;exact⟨by simp[hxy],rfl⟩
theorem Ti(T:TypeId)(v:Value)(y:Addr)(r:Bool)(w:World)
  (h:Calls Tryz.prog 77 #[.iface T v,.iface 302 (.pointer (some y)),.bool true] w fun e w'=>e=.returned (.bool r)/\w=w'):
  Calls Tryz.prog 40 #[.iface T v,.iface 302 (.pointer (some y))] w fun e w'=>e=.returned (.bool r)/\w=w':=by
 have h8:= @run_callFunc_extern Tryz.prog 76 _ Extern.ReflectliteType.typeOf Tryz.func76 qK qK qK qK;have tT:=qz;have cT:=mP;have mR:=gA;have H:=Lh h;clear h;go_enter Tryz.func40,Tryz.ntmps40
 go_wp2_with fail;refine H.out.mono ?_;rintro e w1 ⟨rfl,rfl⟩;go_wp2_with fail;go_ret;exact⟨rfl,rfl⟩
theorem MM(A:Nat->Addr)(k:Nat)(hk:k<20)(T:TypeId)(v:Value)(w:World)(hE:Errs w A)
  (hI:∀w' j,Below w.heap.size w w'->j<20->Calls Tryz.prog 40 #[.iface T v,.iface 302 (.pointer (some (A j)))] w' fun e u=>e=.returned (.bool (decide (k=j)))/\w'=u):
  Calls Tryz.prog 16 #[.iface T v] w fun e w'=>e=.returned (.int .i64 (k+1:Nat))/\Below w.heap.size w w':=by
 have HE:=Lh hE;have HI:=Lh hI;obtain⟨inj,c0,c1,c2,c3,c4,c5,c6,c7,c8,c9,c10,c11,c12,c13,c14,c15,c16,c17,c18,c19,hbl⟩:=hE;clear inj hbl hI;go_enter Tryz.func16,Tryz.ntmps16
 go_wp2
 go_loopw [31] (fun v wr=>Tf w A k v wr) (fun v _=>20-(intOf v).toNat)
 case atStart=>
  refine⟨0,_,qO,rfl,?_,rfl⟩;intro j hj
  match j,hj with
  |0,_|1,_|2,_|3,_|4,_|5,_|6,_|7,_|8,_|9,_|10,_|11,_|12,_|13,_|14,_|15,_|16,_|17,_|18,_|19,_=>rfl
  |n+20,h=>omega
 case round=>
  clear c0 c1 c2 c3 c4 c5 c6 c7 c8 c9 c10 c11 c12 c13 c14 c15 c16 c17 c18 c19;obtain⟨i,C,hi,rfl,hC,rfl⟩:=hrel;have hCi:=hC i qO;have HC:=Lh hC;clear hC;have hi20:i<20:=qO;have HII:=Lh (HI.out (w.alloc (.cells C 34)) i (qB.alloc qN _) hi20);by_cases h:i=k
  ·subst h;have H1:=Lh (HII.out.mono fun e u q=>(show e=.returned (.bool true)/\w.alloc (.cells C 34)=u from ⟨by rw[q.1];simp,q.2⟩));clear HII;go_wp2_with (go_at_call 40;refine H1.out.mono ?_;rintro e w' ⟨rfl,rfl⟩)
   go_ret;exact⟨by go_num,qB.alloc qN _⟩
  ·have H1:=Lh (HII.out.mono fun e u q=>(show e=.returned (.bool false)/\w.alloc (.cells C 34)=u from ⟨by rw[q.1];simp;omega,q.2⟩));clear HII;go_wp2_with (go_at_call 40;refine H1.out.mono ?_;rintro e w' ⟨rfl,rfl⟩)
   go_roundw
   case rel=>exact⟨i+1,C,qO,by go_num,HC.out,rfl⟩
   case measure=>simp[intOf];omega
theorem Errs.inj_iff{W:World}{A:Nat->Addr}(h:Errs W A){k j:Nat}(hk:k<20)(hj:j<20):decide (A k=A j)=decide (k=j):=by
 by_cases e:k=j
 ·subst e;simp
 ·have:¬A k=A j:=fun e2=>e (h.inj k j hk hj e2)
  simp[e,this]
theorem ng{w w':World}{b:Nat}{v:Value}(h:w.cell? ⟨b,2,none⟩=some v)(hb:Below w.heap.size w w'):w'.cell? ⟨b,2,none⟩=some v:=by
 have hlt:b<w.heap.size:=by
  unfold World.cell? at h;cases hh:w.heap[b]? with
  |none=>simp[hh]at h
  |some o=>exact(aE.1 hh).1
 rw[hb.cell (p:=⟨b,2,none⟩) hlt];exact h
theorem sE(U:ee)(A:Nat->Addr)(k:Nat)(hk:k<20)(b:Nat)(w:World)(hE:Errs w A)(hc:w.cell? ⟨b,2,none⟩=some (.iface 302 (.pointer (some (A k))))):
  Calls Tryz.prog 16 #[.iface 157 (.pointer (some ⟨b,0,none⟩))] w fun e w'=>e=.returned (.int .i64 (k+1:Nat))/\Below w.heap.size w w':=by
 refine MM A k hk _ _ w hE fun w' j hb hj=>?_
 have hE2:=hE.later hb;have h:=Ti 157 _ (A j) _ w' (Q3 U b (A k) (A j) w' (ng hc hb) (hE2.block k hk) (hE2.block j hj));rw[hE2.inj_iff hk hj]at h;exact h
end Er
end
section
open Go.ChangeShapes Go.WideShapes Go.ChangeAt
def Xa(n:Nat)(w:World)(i:Value)(wr:World):Prop:=∃k:Nat,k<=n/\i=.int .i64 k/\Kit.Dn w wr
theorem pD(z:List Int)(o o2:Option Addr)(c c2:Nat)(w:World)(h1:RowIs w o (aF z) c)(h2:RowIs w o2 (aF z) c2)(hz:z.length<=1000)(hr:∀k,k<z.length-> -9223372036854775808<=z.getD k 0/\z.getD k 0<=9223372036854775807):
  Calls Tryz.prog 18 #[.slice o z.length c,.slice o2 z.length c2] w fun e w'=>e=.returned (.bool true)/\Kit.Dn w w':=by
 have hc1:=h1.cap;have hc2:=h2.cap;unfold maxLen at hc1 hc2;have H1:=Lh h1;have H2:=Lh h2;have HR:=Lh hr;clear h1 h2 hr;go_enter Tryz.func18,Tryz.ntmps18
 go_wp2_with fail;go_loopw [5,13] (fun _ i wr=>Xa z.length w i wr) (fun _ i _=>z.length-(intOf i).toNat)
 case atStart=>exact⟨0,Nat.zero_le _,rfl,Kit.Dn.refl _⟩
 case round=>
  obtain⟨k,hk,rfl,hd⟩:=hrel;have HD:=Lh hd;by_cases hlt:k<z.length
  ·obtain⟨b1,off1,rfl,_,hcell1⟩:=(H1.out.later hd.below).cells (by simp;omega);obtain⟨b2,off2,rfl,_,hcell2⟩:=(H2.out.later hd.below).cells (by simp;omega);have hp1:wr.cell? ⟨b1,off1+k,none⟩=some (.int .i64 (z.getD k 0)):=hcell1 k _ (gQ z k hlt);have hp2:wr.cell? ⟨b2,off2+k,none⟩=some (.int .i64 (z.getD k 0)):=hcell2 k _ (gQ z k hlt);have hkr:=HR.out k hlt;have hk0:(0:Int)<=(k:Int):=qO;have hk1:(k:Int)<(z.length:Int):=qO;generalize z.getD k 0=p at*;clear hcell1 hcell2 hd;go_wp2_with fail;go_quiet (fail)
   go_wp2_with fail;go_roundw
   case rel=>exact⟨k+1,qO,by go_num,HD.out.add _⟩
   case measure=>simp[intOf];omega
  ·obtain rfl:k=z.length:=qO;go_wp2
   go_ret;exact⟨rfl,hd⟩
end
theorem open_pm15{H:Type}{enc:TypeId×Value->H}{P:Program}{W:World}{r:Reach}{base:Nat}{t:TypeId}{f0 f1 f2 f3 f4 f5:Field}{v:Value}{d:DataW H}{p:List MemPlace}
  (ht:P.underlying t=some (.struct #[f0,f1,f2,f3,f4,f5])) (hct:P.cellsOf t=6) (o0:f0.offset=0) (o1:f1.offset=1) (o2:f2.offset=2) (o3:f3.offset=3) (o4:f4.offset=4) (o5:f5.offset=5)
  (c0:P.cellsOf f0.type=1) (c1:P.cellsOf f1.type=1) (c2:P.cellsOf f2.type=1) (c3:P.cellsOf f3.type=1) (c4:P.cellsOf f4.type=1) (c5:P.cellsOf f5.type=1)
  (u0:P.underlying f0.type=some (.int .i64)) (u1:P.underlying f1.type=some (.int .i64)) (u2:P.underlying f2.type=some (.int .i64)) (u3:P.underlying f3.type=some (.int .i64)) (u4:P.underlying f4.type=some (.int .i64)) (u5:P.underlying f5.type=some (.int .i64))
  (hval:Value.okWide P W r base t v) (h:DataW.Trod enc P W 0 (fun _=>true) true t v d p):∃q:Pm15,v=.agg (pmA q)/\q.ok:=by
 obtain⟨cs,rfl,hsz⟩:∃cs,v=.agg cs/\cs.size=P.cellsOf t:=by
  simp only[Value.okWide,ht]at hval;obtain⟨cs,h1,h2,_⟩:=hval;exact⟨cs,h1,h2⟩
 obtain⟨fuel,hf⟩:=h;obtain⟨ys,nn,_,hx,hl,hlen,hg⟩:=DataW.trod_struct ht hf;rw[hct]at hsz;have hy5:ys.length=6:=hlen;have g0:=hg 0 f0 rfl;have g1:=hg 1 f1 rfl;have g2:=hg 2 f2 rfl;have g3:=hg 3 f3 rfl;have g4:=hg 4 f4 rfl;have g5:=hg 5 f5 rfl;rw[List.getElem?_eq_getElem qO]at g0 g1 g2 g3 g4 g5;simp only[Value.cells,o0,o1,o2,o3,o4,o5,c0,c1,c2,c3,c4,c5,List.drop_zero]at g0 g1 g2 g3 g4 g5;obtain⟨l⟩:=cs;have hsl:l.length=6:=by simpa using hsz
 have one:∀k(hk:k<6),(l.drop k).take 1=[l[k]' qO]:=fun k hk=>by
  rw[List.drop_eq_getElem_cons qO];rfl
 have z0:=one 0 qO;rw[List.drop_zero]at z0;rw[z0]at g0;rw[one 1 qO]at g1;rw[one 2 qO]at g2;rw[one 3 qO]at g3;rw[one 4 qO]at g4;rw[one 5 qO]at g5;obtain⟨k0,hk0,_,hw0⟩:=DataW.trod_int u0 g0;obtain⟨k1,hk1,_,hw1⟩:=DataW.trod_int u1 g1;obtain⟨k2,hk2,_,hw2⟩:=DataW.trod_int u2 g2;obtain⟨k3,hk3,_,hw3⟩:=DataW.trod_int u3 g3;obtain⟨k4,hk4,_,hw4⟩:=DataW.trod_int u4 g4;obtain⟨k5,hk5,_,hw5⟩:=DataW.trod_int u5 g5;refine⟨⟨k0,k1,k2,k3,k4,k5⟩,?_,⟨i64_wf hw0,i64_wf hw1,i64_wf hw2,i64_wf hw3,i64_wf hw4,i64_wf hw5⟩⟩;congr 1
 have e0:l[0]' qO=.int .i64 k0:=by simpa using hk0
 have e1:l[1]' qO=.int .i64 k1:=by simpa using hk1
 have e2:l[2]' qO=.int .i64 k2:=by simpa using hk2
 have e3:l[3]' qO=.int .i64 k3:=by simpa using hk3
 have e4:l[4]' qO=.int .i64 k4:=by simpa using hk4
 have e5:l[5]' qO=.int .i64 k5:=by simpa using hk5
 apply Array.toList_inj.1;show l=pmL ⟨k0,k1,k2,k3,k4,k5⟩
 match l,hsl,e0,e1,e2,e3,e4,e5 with
 |[x0,x1,x2,x3,x4,x5],_,e0,e1,e2,e3,e4,e5=>
  simp only[List.getElem_cons_zero,List.getElem_cons_succ]at e0 e1 e2 e3 e4 e5;subst e0 e1 e2 e3 e4 e5;rfl
theorem im(n:Nat)(w:World)(hn:n<=2000):
  Calls Tryz.prog 28 #[.int .i64 (n:Int)] w fun e w'=>e=.returned (.tuple #[.int .i64 ((gi (nbk n):Nat):Int),.int .i64 0])/\Below w.heap.size w w':=by
 have HS:=Lh (gG n w hn);have hb:=eM n hn;have hl:=jZ n;have hs:=db n;have HT:Hid (bc (shp n)+32*(shp n).length=gi (nbk n)):=Lh (by rw[db];rfl);obtain⟨l,hlq⟩:=qM (shp n);rw[hlq]at HS hl HT hs;have HSM:Hid (bc l<=1000000):=Lh qO;clear hlq hs;go_enter Tryz.func28,Tryz.ntmps28
 go_wp2_with fail;refine HS.out.mono ?_;rintro e w1 ⟨x,rfl,⟨o,c,rfl,hr⟩,hb1⟩;have h1:=hr.le;have h2:=hr.cap;simp at h1;unfold maxLen at h2;have HR:=Lh hr;have HB:=Lh hb1;rw[bv];clear hr hb1 HS;go_wp2_with fail;go_loopw [6,16] (fun s i wr=>Xx l w1 s i wr) (fun _ i _=>l.length-(intOf i).toNat)
 case atStart=>exact⟨0,Nat.zero_le _,rfl,rfl,rfl⟩
 case round=>
  obtain⟨k,hk,rfl,rfl,rfl⟩:=hrel;by_cases hlt:k<l.length
  ·obtain⟨b,off,rfl,_,hc⟩:=dR HR.out k hlt;have hst:=fP l k hlt;have hle:=eZ l (k+1);have hle2:=HSM.out;have hk0:(0:Int)<=(k:Int):=qO;have hk1:(k:Int)<(l.length:Int):=qO;obtain⟨s,hs⟩:=qM (bc (l.take k)+32*k);rw[hs];have hs1:s<=2000000:=qO;have hx:l.getD k 0<=1000000:=qO;generalize l.getD k 0=x at*;have HX:Hid (bc (l.take (k+1))+32*(k+1)=s+(x+32)):=Lh qO;clear hst hle hle2 hs;go_wp2_with fail;go_roundw
   case rel=>exact⟨k+1,qO,by go_num,by rw[HX.out];go_num,rfl⟩
   case measure=>simp[intOf];omega
  ·obtain rfl:k=l.length:=qO;rw[List.take_length];go_wp2_with fail;go_ret2
   rw[HT.out];exact⟨rfl,HB.out⟩
structure PmAt(W:World)(g:Nat)(p:Pm15):Prop where
 lt:g<W.heap.size
 c0:W.cell? ⟨g,0,none⟩=some (.int .i64 p.sz)
 c1:W.cell? ⟨g,1,none⟩=some (.int .i64 p.se)
 c2:W.cell? ⟨g,2,none⟩=some (.int .i64 p.sp)
 c3:W.cell? ⟨g,3,none⟩=some (.int .i64 p.pe)
 c4:W.cell? ⟨g,4,none⟩=some (.int .i64 p.pa)
 c5:W.cell? ⟨g,5,none⟩=some (.int .i64 p.re)
theorem PmAt.later{W W':World}{g:Nat}{p:Pm15}(h:PmAt W g p)(hb:Below W.heap.size W W'):PmAt W' g p:=by
 have k:∀i,W'.cell? ⟨g,i,none⟩=W.cell? ⟨g,i,none⟩:=fun i=>hb.cell (p:=⟨g,i,none⟩) h.lt
 exact⟨Nat.lt_of_lt_of_le h.lt hb.size,(k 0).trans h.c0,(k 1).trans h.c1,(k 2).trans h.c2,(k 3).trans h.c3,(k 4).trans h.c4,(k 5).trans h.c5⟩
theorem PmAt.of{W:World}{g:Nat}{T:TypeId}{f:Nat×Nat}{p:Pm15}(h:W.heap[g]? =some (.cells (pmA p) T f)):PmAt W g p:=by
 have k:∀i,W.cell? ⟨g,i,none⟩=(pmA p)[i]? :=fun i=>by unfold World.cell?;rw[h];rfl
 exact⟨(aE.1 h).1,k 0,k 1,k 2,k 3,k 4,k 5⟩
theorem PmAt.new(W:World)(T:TypeId)(p:Pm15):PmAt (W.alloc (.cells (pmA p) T)) W.heap.size p:=PmAt.of (World.alloc_heap_new W _)
theorem io(p:Pm15)(hok:p.ok)(w:World):
  Calls Tryz.prog 27 #[.agg (pmA p)] w fun e w'=>e=.returned (.tuple #[txt15 (Da.js (Da.aU p)),.int .i64 (Da.cH p (Da.aU p)),.int .i64 ((Da.ef (Da.aU p):Nat):Int)])/\Below w.heap.size w w':=by
 obtain⟨g,hg⟩:=qM w.heap.size;obtain⟨W1,hW1⟩:=qM (w.alloc (.cells (pmA p) 32));have hP:PmAt W1 g p:=by rw[<-hW1,<-hg];exact PmAt.new _ _ _
 have hb1:Below w.heap.size w W1:=by rw[<-hW1];exact qB.alloc qN _
 have HW1:=Lh hW1;have HG:=Lh hg;have HP:=Lh hP;have HB1:=Lh hb1;have hc0:=hP.c0;have hc1:=hP.c1;have hc2:=hP.c2;have hc3:=hP.c3;have hc4:=hP.c4;have hc5:=hP.c5;have HOK:=Lh hok;obtain⟨Q,hQ⟩:=qM (pmA p);rw[hQ]at HW1⊢;clear hP hb1 hW1 hg hok;obtain⟨sz,se,sp,pe,pa,re⟩:=p;dsimp only at hc0 hc1 hc2 hc3 hc4 hc5;obtain⟨k,hk⟩:=qM (Da.aU ⟨sz,se,sp,pe,pa,re⟩);rw[hk];unfold Da.aU at hk;dsimp only at hk;by_cases l1:sz<0
 ·rw[if_pos qO]at hk;subst hk;have d1sz:decide (sz<0)=true:=decide_eq_true qO;go_enter Tryz.func27,Tryz.ntmps27
  go_upto_region 1 with fail
  rw[HW1.out,HG.out];go_upto_region 2 with fail
  go_quiet (fail)
  go_wp2_with fail;refine bodyPost_ret (results_tmp3 rfl _ _ _) rfl ?_;first|exact⟨rfl,Ks HB1.out (Kit.dn' _ _)⟩|exact⟨rfl,HB1.out.drew⟩
 by_cases u1:2000<sz
 ·rw[if_pos qO]at hk;subst hk;have d1sz:decide (sz<0)=false:=decide_eq_false qO;have d2sz:decide (sz>2000)=true:=decide_eq_true qO;have d3sz:decide (2000<sz)=true:=decide_eq_true qO;go_enter Tryz.func27,Tryz.ntmps27
  go_upto_region 1 with fail
  rw[HW1.out,HG.out];go_upto_region 2 with fail
  go_quiet (fail)
  go_wp2_with fail;refine bodyPost_ret (results_tmp3 rfl _ _ _) rfl ?_;first|exact⟨rfl,Ks HB1.out (Kit.dn' _ _)⟩|exact⟨rfl,HB1.out.drew⟩
 have d1sz:decide (sz<0)=false:=decide_eq_false qO;have d2sz:decide (sz>2000)=false:=decide_eq_false qO;have d3sz:decide (2000<sz)=false:=decide_eq_false qO;rw[if_neg qO]at hk;by_cases l2:se<0
 ·rw[if_pos qO]at hk;subst hk;have d1se:decide (se<0)=true:=decide_eq_true qO;go_enter Tryz.func27,Tryz.ntmps27
  go_upto_region 1 with fail
  rw[HW1.out,HG.out];go_upto_region 4 with fail
  go_quiet (fail)
  go_wp2_with fail;refine bodyPost_ret (results_tmp3 rfl _ _ _) rfl ?_;first|exact⟨rfl,Ks HB1.out (Kit.dn' _ _)⟩|exact⟨rfl,HB1.out.drew⟩
 by_cases u2:8<se
 ·rw[if_pos qO]at hk;subst hk;have d1se:decide (se<0)=false:=decide_eq_false qO;have d2se:decide (se>8)=true:=decide_eq_true qO;have d3se:decide (8<se)=true:=decide_eq_true qO;go_enter Tryz.func27,Tryz.ntmps27
  go_upto_region 1 with fail
  rw[HW1.out,HG.out];go_upto_region 4 with fail
  go_quiet (fail)
  go_wp2_with fail;refine bodyPost_ret (results_tmp3 rfl _ _ _) rfl ?_;first|exact⟨rfl,Ks HB1.out (Kit.dn' _ _)⟩|exact⟨rfl,HB1.out.drew⟩
 have d1se:decide (se<0)=false:=decide_eq_false qO;have d2se:decide (se>8)=false:=decide_eq_false qO;have d3se:decide (8<se)=false:=decide_eq_false qO;rw[if_neg qO]at hk;have TO:=im sz.toNat W1 qO;rw[show((sz.toNat:Nat):Int)=sz by omega,show gi (nbk sz.toNat)=Da.ae sz from rfl]at TO;have hbd:Da.ae sz<=100000:=by
  have:=eM sz.toNat qO;unfold Da.ae gi n0;split<;>simp<;>omega
 obtain⟨T,hT⟩:=qM (Da.ae sz);rw[hT]at TO hbd;simp only[hT]at hk;have HTO:=Lh TO;have hw0:IntKind.i64.wrap ((T:Int)+se)=(T:Int)+se:=by rw[IntKind.wrap_i64];omega
 clear TO hT;by_cases l3:sp<1
 ·rw[if_pos qO]at hk;subst hk;have d1sp:decide (sp<1)=true:=decide_eq_true qO;go_enter Tryz.func27,Tryz.ntmps27
  go_upto_region 1 with fail
  rw[HW1.out,HG.out];go_wp2_with fail;refine HTO.out.mono ?_;rintro e W2 ⟨rfl,hb2⟩;have hP2:=HP.out.later hb2;have HB2:=Lh (Ks HB1.out hb2);have hc0:=hP2.c0;have hc1:=hP2.c1;have hc2:=hP2.c2;have hc3:=hP2.c3;have hc4:=hP2.c4;have hc5:=hP2.c5;clear hP2 hb2;go_upto_region 7 with fail
  go_quiet (fail)
  go_wp2_with fail;refine bodyPost_ret (results_tmp3 rfl _ _ _) rfl ?_;first|exact⟨rfl,Ks HB2.out (Kit.dn' _ _)⟩|exact⟨rfl,HB2.out.drew⟩
 by_cases u3:12<sp
 ·rw[if_pos qO]at hk;subst hk;have d1sp:decide (sp<1)=false:=decide_eq_false qO;have d2sp:decide (sp>12)=true:=decide_eq_true qO;have d3sp:decide (12<sp)=true:=decide_eq_true qO;go_enter Tryz.func27,Tryz.ntmps27
  go_upto_region 1 with fail
  rw[HW1.out,HG.out];go_wp2_with fail;refine HTO.out.mono ?_;rintro e W2 ⟨rfl,hb2⟩;have hP2:=HP.out.later hb2;have HB2:=Lh (Ks HB1.out hb2);have hc0:=hP2.c0;have hc1:=hP2.c1;have hc2:=hP2.c2;have hc3:=hP2.c3;have hc4:=hP2.c4;have hc5:=hP2.c5;clear hP2 hb2;go_upto_region 7 with fail
  go_quiet (fail)
  go_wp2_with fail;refine bodyPost_ret (results_tmp3 rfl _ _ _) rfl ?_;first|exact⟨rfl,Ks HB2.out (Kit.dn' _ _)⟩|exact⟨rfl,HB2.out.drew⟩
 have d1sp:decide (sp<1)=false:=decide_eq_false qO;have d2sp:decide (sp>12)=false:=decide_eq_false qO;have d3sp:decide (12<sp)=false:=decide_eq_false qO;by_cases t3:(T:Int)+se<sp
 ·rw[if_pos qO]at hk;subst hk;have d4:decide (sp>(T:Int)+se)=true:=decide_eq_true qO;have d5:decide ((T:Int)+se<sp)=true:=decide_eq_true qO;go_enter Tryz.func27,Tryz.ntmps27
  go_upto_region 1 with fail
  rw[HW1.out,HG.out];go_wp2_with fail;refine HTO.out.mono ?_;rintro e W2 ⟨rfl,hb2⟩;have hP2:=HP.out.later hb2;have HB2:=Lh (Ks HB1.out hb2);have hc0:=hP2.c0;have hc1:=hP2.c1;have hc2:=hP2.c2;have hc3:=hP2.c3;have hc4:=hP2.c4;have hc5:=hP2.c5;clear hP2 hb2;go_upto_region 7 with fail
  go_quiet (fail)
  go_wp2_with fail;refine bodyPost_ret (results_tmp3 rfl _ _ _) rfl ?_;first|exact⟨rfl,Ks HB2.out (Kit.dn' _ _)⟩|exact⟨rfl,HB2.out.drew⟩
 have d4:decide (sp>(T:Int)+se)=false:=decide_eq_false qO;have d5:decide ((T:Int)+se<sp)=false:=decide_eq_false qO;rw[if_neg qO]at hk;by_cases l4:pe<1
 ·rw[if_pos qO]at hk;subst hk;have d1pe:decide (pe<1)=true:=decide_eq_true qO;go_enter Tryz.func27,Tryz.ntmps27
  go_upto_region 1 with fail
  rw[HW1.out,HG.out];go_wp2_with fail;refine HTO.out.mono ?_;rintro e W2 ⟨rfl,hb2⟩;have hP2:=HP.out.later hb2;have HB2:=Lh (Ks HB1.out hb2);have hc0:=hP2.c0;have hc1:=hP2.c1;have hc2:=hP2.c2;have hc3:=hP2.c3;have hc4:=hP2.c4;have hc5:=hP2.c5;clear hP2 hb2;go_upto_region 9 with fail
  go_quiet (fail)
  go_wp2_with fail;refine bodyPost_ret (results_tmp3 rfl _ _ _) rfl ?_;first|exact⟨rfl,Ks HB2.out (Kit.dn' _ _)⟩|exact⟨rfl,HB2.out.drew⟩
 by_cases u4:10000<pe
 ·rw[if_pos qO]at hk;subst hk;have d1pe:decide (pe<1)=false:=decide_eq_false qO;have d2pe:decide (pe>10000)=true:=decide_eq_true qO;have d3pe:decide (10000<pe)=true:=decide_eq_true qO;go_enter Tryz.func27,Tryz.ntmps27
  go_upto_region 1 with fail
  rw[HW1.out,HG.out];go_wp2_with fail;refine HTO.out.mono ?_;rintro e W2 ⟨rfl,hb2⟩;have hP2:=HP.out.later hb2;have HB2:=Lh (Ks HB1.out hb2);have hc0:=hP2.c0;have hc1:=hP2.c1;have hc2:=hP2.c2;have hc3:=hP2.c3;have hc4:=hP2.c4;have hc5:=hP2.c5;clear hP2 hb2;go_upto_region 9 with fail
  go_quiet (fail)
  go_wp2_with fail;refine bodyPost_ret (results_tmp3 rfl _ _ _) rfl ?_;first|exact⟨rfl,Ks HB2.out (Kit.dn' _ _)⟩|exact⟨rfl,HB2.out.drew⟩
 have d1pe:decide (pe<1)=false:=decide_eq_false qO;have d2pe:decide (pe>10000)=false:=decide_eq_false qO;have d3pe:decide (10000<pe)=false:=decide_eq_false qO;rw[if_neg qO]at hk;by_cases l5:pa<1
 ·rw[if_pos qO]at hk;subst hk;have d1pa:decide (pa<1)=true:=decide_eq_true qO;go_enter Tryz.func27,Tryz.ntmps27
  go_upto_region 1 with fail
  rw[HW1.out,HG.out];go_wp2_with fail;refine HTO.out.mono ?_;rintro e W2 ⟨rfl,hb2⟩;have hP2:=HP.out.later hb2;have HB2:=Lh (Ks HB1.out hb2);have hc0:=hP2.c0;have hc1:=hP2.c1;have hc2:=hP2.c2;have hc3:=hP2.c3;have hc4:=hP2.c4;have hc5:=hP2.c5;clear hP2 hb2;go_upto_region 11 with fail
  go_quiet (fail)
  go_wp2_with fail;refine bodyPost_ret (results_tmp3 rfl _ _ _) rfl ?_;first|exact⟨rfl,Ks HB2.out (Kit.dn' _ _)⟩|exact⟨rfl,HB2.out.drew⟩
 by_cases u5:pe<pa
 ·rw[if_pos qO]at hk;subst hk;have d1pa:decide (pa<1)=false:=decide_eq_false qO;have d2pa:decide (pa>pe)=true:=decide_eq_true qO;have d3pa:decide (pe<pa)=true:=decide_eq_true qO;go_enter Tryz.func27,Tryz.ntmps27
  go_upto_region 1 with fail
  rw[HW1.out,HG.out];go_wp2_with fail;refine HTO.out.mono ?_;rintro e W2 ⟨rfl,hb2⟩;have hP2:=HP.out.later hb2;have HB2:=Lh (Ks HB1.out hb2);have hc0:=hP2.c0;have hc1:=hP2.c1;have hc2:=hP2.c2;have hc3:=hP2.c3;have hc4:=hP2.c4;have hc5:=hP2.c5;clear hP2 hb2;go_upto_region 11 with fail
  go_quiet (fail)
  go_wp2_with fail;refine bodyPost_ret (results_tmp3 rfl _ _ _) rfl ?_;first|exact⟨rfl,Ks HB2.out (Kit.dn' _ _)⟩|exact⟨rfl,HB2.out.drew⟩
 have d1pa:decide (pa<1)=false:=decide_eq_false qO;have d2pa:decide (pa>pe)=false:=decide_eq_false qO;have d3pa:decide (pe<pa)=false:=decide_eq_false qO;rw[if_neg qO]at hk;by_cases l6:re<0
 ·rw[if_pos qO]at hk;subst hk;have d1re:decide (re<0)=true:=decide_eq_true qO;go_enter Tryz.func27,Tryz.ntmps27
  go_upto_region 1 with fail
  rw[HW1.out,HG.out];go_wp2_with fail;refine HTO.out.mono ?_;rintro e W2 ⟨rfl,hb2⟩;have hP2:=HP.out.later hb2;have HB2:=Lh (Ks HB1.out hb2);have hc0:=hP2.c0;have hc1:=hP2.c1;have hc2:=hP2.c2;have hc3:=hP2.c3;have hc4:=hP2.c4;have hc5:=hP2.c5;clear hP2 hb2;go_upto_region 13 with fail
  go_quiet (fail)
  go_wp2_with fail;refine bodyPost_ret (results_tmp3 rfl _ _ _) rfl ?_;first|exact⟨rfl,Ks HB2.out (Kit.dn' _ _)⟩|exact⟨rfl,HB2.out.drew⟩
 by_cases u6:5<re
 ·rw[if_pos qO]at hk;subst hk;have d1re:decide (re<0)=false:=decide_eq_false qO;have d2re:decide (re>5)=true:=decide_eq_true qO;have d3re:decide (5<re)=true:=decide_eq_true qO;go_enter Tryz.func27,Tryz.ntmps27
  go_upto_region 1 with fail
  rw[HW1.out,HG.out];go_wp2_with fail;refine HTO.out.mono ?_;rintro e W2 ⟨rfl,hb2⟩;have hP2:=HP.out.later hb2;have HB2:=Lh (Ks HB1.out hb2);have hc0:=hP2.c0;have hc1:=hP2.c1;have hc2:=hP2.c2;have hc3:=hP2.c3;have hc4:=hP2.c4;have hc5:=hP2.c5;clear hP2 hb2;go_upto_region 13 with fail
  go_quiet (fail)
  go_wp2_with fail;refine bodyPost_ret (results_tmp3 rfl _ _ _) rfl ?_;first|exact⟨rfl,Ks HB2.out (Kit.dn' _ _)⟩|exact⟨rfl,HB2.out.drew⟩
 have d1re:decide (re<0)=false:=decide_eq_false qO;have d2re:decide (re>5)=false:=decide_eq_false qO;have d3re:decide (5<re)=false:=decide_eq_false qO;rw[if_neg qO]at hk;subst hk;go_enter Tryz.func27,Tryz.ntmps27
 go_upto_region 1 with fail
 rw[HW1.out,HG.out];go_wp2_with fail;refine HTO.out.mono ?_;rintro e W2 ⟨rfl,hb2⟩;have hP2:=HP.out.later hb2;have HB2:=Lh (Ks HB1.out hb2);have hc0:=hP2.c0;have hc1:=hP2.c1;have hc2:=hP2.c2;have hc3:=hP2.c3;have hc4:=hP2.c4;have hc5:=hP2.c5;clear hP2 hb2;go_wp2_with fail;refine bodyPost_ret (results_tmp3 rfl _ _ _) rfl ?_;exact⟨rfl,HB2.out⟩
theorem CB{k:Nat}(h:k≠0):Da.ef k=8∨Da.ef k=18∨Da.ef k=1:=by
 match k,h with
 |1,_=>exact .inl rfl
 |2,_=>exact .inr (.inl rfl)
 |(n+3),_=>exact .inr (.inr rfl)
theorem tu(U:Er.ee)(A:Nat->Addr)(p:Pm15)(v:Value)(w:World)(hE:Er.Errs w A)(h:WrV A p w v):Calls Tryz.prog 16 #[v] w fun e w'=>e=.returned (.int .i64 ((Da.ef (Da.aU p):Nat):Int))/\Below w.heap.size w w':=by
 rcases h with ⟨h0,rfl⟩|⟨h0,b,rfl,hw⟩
 ·rw[h0];exact(Er.rA w).mono fun e w' h=>⟨h.1,h.2▸Below.refl _ _⟩
 ·have hc:=hw.cell;unfold ec at hc;rcases CB h0 with e|e|e<;>rw[e]at hc⊢
  ·exact Er.sE U A 7 qD b w hE hc
  ·exact Er.sE U A 17 qD b w hE hc
  ·exact Er.sE U A 0 qD b w hE hc
theorem Oe(A:Nat->Addr)(k:Nat)(hk:k<=20)(w:World)(hE:Er.Errs w A):Calls Tryz.prog 16 #[eD A k] w fun e w'=>e=.returned (.int .i64 ((k:Nat):Int))/\Below w.heap.size w w':=by
 unfold eD;by_cases h0:k=0
 ·rw[if_pos h0];subst h0;exact(Er.rA w).mono fun e w' h=>⟨h.1,h.2▸Below.refl _ _⟩
 ·rw[if_neg h0];have:=Er.pq A (k-1) qO w hE;rw[show k-1+1=k by omega]at this;exact this
theorem S2(U:Er.ee)(A:Nat->Addr)(p:Pm15)(k:Nat)(hk:k<=20)(v:Value)(w:World)(hE:Er.Errs w A)(h:SeV A p k w v):
  Calls Tryz.prog 16 #[v] w fun e w'=>e=.returned (.int .i64 ((Da.a6 p k:Nat):Int))/\Below w.heap.size w w':=by
 unfold Da.a6;rcases h with ⟨h0,h⟩|⟨h0,rfl⟩
 ·rw[if_neg h0];exact tu U A p v w hE h
 ·rw[if_pos h0];exact Oe A k hk w hE
def aBA(G:L8)(n:Nat)(w:World)(e iv:Value)(wr:World):Prop:=∃k:Nat,k<=n/\iv=.int .i64 k/\e=.int .i64 ((gnL G k).length:Int)/\wr=w
theorem xE(G:L8)(n c:Nat)(o:Option Addr)(w:World)(hG:RbIs w o G c)(hn:G.length=n)(hl:n<=1000):
  Calls Tryz.prog 54 #[.slice o n c] w fun e w'=>e=.returned (.int .i64 ((gnL G n).length:Int))/\w'=w:=by
 have h1:=hG.le.1;have h2:=hG.le.2;rw[hn]at h1;unfold maxLen at h2;have HG:=Lh hG;have HN:=Lh hn;clear hG hn;go_enter Tryz.func54,Tryz.ntmps54
 go_wp2_with fail;go_loopw [3,5,8] (fun e _ iv wr=>aBA G n w e iv wr) (fun _ _ iv _=>n-(intOf iv).toNat)
 case atStart=>exact⟨0,Nat.zero_le _,rfl,rfl,rfl⟩
 case round=>
  obtain⟨k,hk,rfl,rfl,rfl⟩:=hrel;by_cases hlt:k<n
  ·have hk0:(0:Int)<=(k:Int):=qO;have hk1:(k:Int)<(n:Int):=qO;obtain⟨b1,off1,p,q,rfl,_,hc1,hrow⟩:=HG.out.cell k (by have:=HN.out;omega);have hgl:=eE G k;have hgs:gnL G (k+1)=if(bi G k).length=8 then gnL G k else gnL G k++[(k:Int)]:=rfl;by_cases h8:(bi G k).length=8
   ·rw[if_pos h8]at hgs;rw[h8]at hc1;have HY:Hid ((gnL G (k+1)).length=(gnL G k).length):=Lh (by rw[hgs]);generalize (gnL G k).length=a at*;clear hgs hrow h8;go_wp2_with fail;refine(tJ _ _ _).mono ?_;rintro e w' ⟨rfl,rfl⟩;go_wp2_with fail;go_roundw
    case rel=>exact⟨k+1,qO,by go_num,by rw[HY.out],rfl⟩
    case measure=>simp[intOf];omega
   ·rw[if_neg h8]at hgs;have HY:Hid ((gnL G (k+1)).length=(gnL G k).length+1):=Lh (by rw[hgs];simp);obtain⟨L,hL⟩:=qM ((bi G k).length);rw[hL]at hc1 h8;have hq1:=hrow.le;have hq2:=hrow.cap;simp at hq1;rw[hL]at hq1;unfold maxLen at hq2;have HW:=Lh (wW p L q wr h8 qO);generalize (gnL G k).length=a at*;clear hgs hrow h8 hL;go_wp2_with fail;refine HW.out.mono ?_;rintro e w' ⟨rfl,rfl⟩;go_wp2_with fail;go_roundw
    case rel=>exact⟨k+1,qO,by go_num,by rw[HY.out];go_num,rfl⟩
    case measure=>simp[intOf];omega
  ·obtain rfl:k=n:=qO;go_wp2_with fail;go_ret;exact⟨rfl,rfl⟩
def aBB(S:L8)(n:Nat)(w:World)(iv:Value)(wr:World):Prop:=∃k:Nat,k<=n/\iv=.int .i64 (k:Int)/\(∀j,j<k->(bi S j).length<=60)/\wr=w
theorem yW(S:L8)(n c:Nat)(o:Option Addr)(w:World)(hS:RbIs w o S c)(hn:S.length=n):
  Calls Tryz.prog 9 #[.slice o n c] w fun e w'=>∃b,e=.returned (.bool b)/\(b=true->kg S)/\w'=w:=by
 have h1:=hS.le.1;have h2:=hS.le.2;rw[hn]at h1;unfold maxLen at h2;by_cases h100:100<n
 ·have d1:decide ((n:Int)>100)=true:=decide_eq_true qO;have d2:decide (100<n)=true:=decide_eq_true h100;clear hS hn;go_enter Tryz.func9,Tryz.ntmps9
  go_wp2_with fail;go_ret;exact⟨false,rfl,(fun h=>by cases h),rfl⟩
 have d1:decide ((n:Int)>100)=false:=decide_eq_false qO;have d2:decide (100<n)=false:=decide_eq_false h100;have HS:=Lh hS;have HN:=Lh hn;clear hS hn;go_enter Tryz.func9,Tryz.ntmps9
 go_wp2_with fail;go_loopw [10] (fun iv wr=>aBB S n w iv wr) (fun iv _=>n-(intOf iv).toNat)
 case atStart=>exact⟨0,Nat.zero_le _,rfl,fun j hj=>qO,rfl⟩
 case round=>
  obtain⟨k,hk,rfl,hall,rfl⟩:=hrel;by_cases hlt:k<n
  ·have hk0:(0:Int)<=(k:Int):=qO;have hk1:(k:Int)<(n:Int):=qO;obtain⟨b1,off1,p,q,rfl,_,hc1,hrow⟩:=HS.out.cell k (by have:=HN.out;omega);have hq1:=hrow.le;have hq2:=hrow.cap;simp at hq1;unfold maxLen at hq2;obtain⟨L,hL⟩:=qM ((bi S k).length);rw[hL]at hc1 hq1;have HLL:=Lh hL;have HALL:=Lh hall;clear hrow hL hall;by_cases h60:60<L
   ·have d3:decide ((L:Int)>60)=true:=decide_eq_true qO;have d4:decide (60<L)=true:=decide_eq_true h60;go_wp2_with fail;go_ret;exact⟨false,rfl,(fun h=>by cases h),rfl⟩
   ·have d3:decide ((L:Int)>60)=false:=decide_eq_false qO;have d4:decide (60<L)=false:=decide_eq_false h60;go_wp2_with fail;go_roundw
    case rel=>exact⟨k+1,qO,by go_num,fun j hj=>by
     by_cases e:j=k
     ·rw[e,HLL.out];omega
     ·exact HALL.out j qO,rfl⟩
    case measure=>simp[intOf];omega
  ·obtain rfl:k=n:=qO;have HALL:=Lh hall;clear hall;go_wp2_with fail;go_ret;exact⟨true,rfl,fun _=>⟨by rw[HN.out];omega,fun b hb=>by
    obtain⟨i,hi,e⟩:=List.getElem_of_mem hb;have:=HALL.out i (by rw[<-HN.out];exact hi);unfold bi at this;rw[List.getD_eq_getElem?_getD,List.getElem?_eq_getElem hi,e]at this;exact this⟩,rfl⟩
def Da.oV(p:Pm15)(m:Nat):Nat:=if m=Da.ae p.sz then 0 else 4
def TS(bs:L8)(l:List Nat)(W1:World)(v1 v9 iv:Value)(wr:World):Prop:=
 ∃(k B:Nat),k<=l.length/\B=atG l k/\iv=.int .i64 (k:Int)/\RbV (bs.drop B) v1 W1/\wr.ownsRow W1.heap.size 3 1 v9 k (aF (erG bs l k))/\Below W1.heap.size W1 wr
theorem F6(A:Nat->Addr)(W:World)(p:Pm15)(o:Option Addr)(c:Nat)(bs:L8)(hB:RbIs W o bs c)(hF:bs.length<=100)(hok:p.ok)(hE:E17 W A):
  Calls Tryz.prog 26 #[.agg (pmA p),.slice o bs.length c] W fun e w'=>∃x v,e=.returned (.tuple #[x,v])/\IntsV (if Da.a6 p (Da.oV p bs.length)=0 then erG bs (shp p.sz.toNat) (shp p.sz.toNat).length else[]) x w'/\SeV A p (Da.oV p bs.length) w' v/\Below W.heap.size W w':=by
 obtain⟨OB,hOB⟩:=qM (Da.oV p bs.length);rw[hOB];obtain⟨RS,hRS⟩:=qM ((if Da.a6 p OB=0 then erG bs (shp p.sz.toNat) (shp p.sz.toNat).length else[]));rw[hRS];have HERR:Hid (Da.a6 p OB≠0->RS=[]):=Lh fun h=>by rw[<-hRS,if_neg h]
 have HOKK:Hid (Da.a6 p OB=0->RS=erG bs (shp p.sz.toNat) (shp p.sz.toNat).length):=Lh fun h=>by rw[<-hRS,if_pos h]
 obtain⟨g,hg⟩:=qM W.heap.size;obtain⟨PA,hPA⟩:=qM (pmA p);obtain⟨W2,hW2⟩:=qM (W.alloc (.cells PA 24));have hb2:Below W.heap.size W W2:=by rw[<-hW2];exact aH _ _
 have hA2:Arr W2 g 24 (pmL p):=by rw[<-hW2,<-hPA,<-hg];exact World.alloc_heap_new W _
 have hP:=jL A W2 p hok (hE.later hb2).e.e15;have HPP:Hid (W2.heap[g]? =some (.cells PA 24 (0,0))):=Lh (by
  have:=hA2;unfold Arr at this;rw[show(pmL p).toArray=PA from hPA]at this;exact this)
 have HPS:Hid ((Tryz.prog.info? 24).map (·.size)=some PA.size):=Lh (by rw[<-hPA];exact aM);have HSZ:Hid (∀w',Below W2.heap.size W2 w'->w'.cell? ⟨g,0,none⟩=some (.int .i64 p.sz)):=Lh fun w' hb=>by rw[(hA2.later hb hA2.lt).cell];rfl
 rw[hPA]at hP⊢;obtain⟨PT,hPT⟩:∃PT:Int,(if Da.aU p=0 then(Da.ae p.sz:Int)else 0)=PT:=⟨_,rfl⟩;rw[hPT]at hP;obtain⟨m,hm⟩:=qM bs.length;have hs1:=hB.le;have hs2:=hs1.2;unfold maxLen at hs2;have hm1:m<=100:=qO;rw[hm]at hs1 hOB⊢;have HP:=Lh hP;have HPT:=Lh hPT;have HG:=Lh hg;have HW2:=Lh hW2;have HB2:=Lh hb2;have HE:=Lh hE;have HOB:=Lh hOB;have HM1:=Lh hm1;have HMM:=Lh hm;have HBB:=Lh hB;have hnn:=dO;clear hP hPT hg hW2 hb2 hA2 hE hPA hok hOB hRS hF hm1 hm hB;go_enter Tryz.func26,Tryz.ntmps26
 go_upto_region 1 with fail
 rw[HW2.out,HG.out];apply wp_region_lit;refine wpList_load_row rfl 24 (.tmp 2) rfl g rfl 24 PA (0,0) _ HPP.out Tryz.underlying24 rfl HPS.out ?_;refine wpList_plain rfl (fun K hK=>?_);go_simp;refine HP.out.mono ?_;rintro e W3 ⟨v,rfl,hv,hb3⟩;refine hK _ _ ?_;clear hK K HP;have HB3:=Lh hb3;clear hb3;iterate 5 (refine qP ?_)
 rcases hv with ⟨h0,rfl⟩|⟨h0,b,rfl,hw⟩
 rotate_left
 ·have HWR:=Lh (show WrV A p W3 (jQ b) from .inr ⟨h0,b,rfl,hw⟩);have HER:=Lh (HERR.out (Da.ln h0 OB));have H0:=Lh h0;have hq:=fU b;unfold jQ at hq⊢;clear h0 hw;go_wp2_with fail;refine bodyPost_ret (results_tmp2 rfl _ _ _) rfl ?_;exact⟨.slice none 0 0,jQ b,rfl,by rw[HER.out];exact lq _,.inl ⟨H0.out,HWR.out⟩,Ks HB2.out HB3.out⟩
 have hpt:PT=(Da.ae p.sz:Int):=by rw[<-HPT.out,if_pos h0]
 obtain⟨T,hT⟩:=qM (Da.ae p.sz);rw[hT]at hpt;subst hpt;have H0:=Lh h0;have HT:=Lh hT;clear h0 hT HPT;by_cases hmn:m=T
 rotate_left
 ·have hob:OB=4:=by rw[<-HOB.out];unfold Da.oV;rw[HT.out,if_neg hmn]
  have HER:=Lh (HERR.out (by unfold Da.a6;rw[if_pos H0.out,hob];omega));have HSV:Hid (∀w',SeV A p OB w' (.iface 302 (.pointer (some (A 3))))):=Lh fun w'=>.inr ⟨H0.out,by rw[hob];rfl⟩
  have hq1:((m:Int) !=(T:Int))=true:=by rw[bne_iff_ne];omega
  have hq2:((m:Int)==(T:Int))=false:=beq_false_of_ne qO;have hc3:=(HE.out.later (Ks HB2.out HB3.out)).c3;clear hob hmn;go_wp2_with fail;go_region
  all_goals go_wp2_with fail
  all_goals refine bodyPost_ret (results_tmp2 rfl _ _ _) rfl ?_
  all_goals exact⟨.slice none 0 0,_,rfl,by rw[HER.out];exact lq _,HSV.out _,Ks HB2.out (Ks HB3.out (Kit.dn' _ _))⟩
 subst hmn;have hob:OB=0:=by rw[<-HOB.out];unfold Da.oV;rw[HT.out,if_pos rfl]
 have heo:=HOKK.out (by unfold Da.a6;rw[if_pos H0.out,hob]);have HSV:Hid (∀w',SeV A p OB w' .nilIface):=Lh fun w'=>.inr ⟨H0.out,by rw[hob];rfl⟩
 have hR:=Da.cN H0.out;obtain⟨s,hs⟩:∃s:Nat,p.sz=(s:Int):=⟨p.sz.toNat,by have:=hR.s0;omega⟩;have hs2':s<=2000:=by have:=hR.s1;omega
 have hst:p.sz.toNat=s:=qO;rw[hst]at heo;obtain⟨l,hl⟩:=qM (shp s);rw[hl]at heo;have hbl:m=bc l+32*l.length:=by
  rw[<-HT.out];unfold Da.ae gi;rw[hst,<-hl,db];rfl
 have hmem:∀k∈l,1<=k/\k<=223:=by
  rw[<-hl];exact jF (nbk s) (fE s) (eM s hs2')
 have hsh:=j9 s W3 hs2';rw[hl]at hsh;have hsc:=HSZ.out W3 HB3.out;rw[hs]at hsc;have HSH:=Lh hsh;have HEO:=Lh heo;have HBL:=Lh hbl;have HMEM:=Lh hmem;have hq3:((m:Int) !=(m:Int))=false:=qS;clear hob heo hR hs hs2' hst hl hbl hmem hsh HSZ HOKK HERR HOB;go_wp2_with fail;refine HSH.out.mono ?_;rintro e W4 ⟨xs,rfl,⟨o1,c1,rfl,hr⟩,hb4⟩;have hc1:=hr.cap;have hle1:=hr.le;simp at hle1;unfold maxLen at hc1;have HB4:=Lh (Ks HB3.out hb4);have HR:=Lh hr;rw[bv];have HBQ:Hid (RbIs W4 o bs c):=Lh (HBB.out.later (Ks HB2.out HB4.out));have HX0:Hid (TS bs l W4 (.slice o m c) (.slice none 0 0) (.int .i64 0) W4):=Lh ⟨0,_,Nat.zero_le _,(iF l).symm,rfl,⟨o,c,by simp[HMM.out],by simpa using HBQ.out⟩,World.ownsRow_nil _ _ _ _,Below.refl _ _⟩;clear hb4 hr HSH hsc hq3;go_wp2_with fail;go_loopw [1,9,37] (fun v1 v9 iv wr=>TS bs l W4 v1 v9 iv wr) (fun _ _ iv _=>l.length-(intOf iv).toNat)
 case atStart=>exact HX0.out
 case round=>
  obtain⟨k,B,hk,hB,rfl,⟨o0,c0,rfl,hv0⟩,hown,hbw⟩:=hrel;have h0l:=hv0.le.1;have h0c:=hv0.le.2;unfold maxLen at h0c;have hdl:(bs.drop B).length=m-B:=by rw[List.length_drop,HMM.out]
  rw[hdl]at h0l⊢;obtain⟨r,hr⟩:=qM (m-B);rw[hr]at h0l⊢;clear HX0;have hm9:=HM1.out;by_cases hlt:k<l.length
  ·obtain⟨b1,off1,rfl,_,hcl⟩:=dR (HR.out.later hbw) k hlt;change wr.cell? _=some (.int .i64 ((szG l k:Nat):Int))at hcl;have hst:=eN l k hlt;have hsl:=i6 l k hlt;rw[<-HBL.out]at hsl;have hmk:=HMEM.out _ (pH l k hlt);have hgg:dD bs l k=(bs.drop B).take (szG l k+32):=by rw[hB];rfl
   have hes:erG bs l (k+1)=erG bs l k++[((gnL (dD bs l k) (szG l k+32)).length:Int)]:=rfl;obtain⟨s',hs'⟩:=qM (szG l k);rw[hs']at hcl hst hmk hsl hgg hes;rw[<-hB]at hst hsl;have hs1':=hmk.1;have hk0:(0:Int)<=(k:Int):=qO;have hk1:(k:Int)<(l.length:Int):=qO;obtain⟨b0,off0,p0,q0,rfl,_⟩:=hv0.cell 0 (by rw[hdl,hr];omega);obtain⟨u,hu⟩:=qM (s'+32);rw[hu]at hgg hes hst hsl;have htk:=hv0.take u (by rw[hdl,hr];omega);rw[<-hgg]at htk;have hdd:=hv0.drop u (by rw[hdl,hr];omega);rw[List.drop_drop]at hdd;have hgl:(dD bs l k).length=u:=by rw[hgg,List.length_take,hdl];omega
   have hmi:(s':Int)+32=(u:Int):=qO;have hur:u<=r:=qO;have hmc:(u:Int)<=(c0:Int):=qO;have hmr:(u:Int)<=(r:Int):=qO;have hlk:=xE (dD bs l k) u c0 (some ⟨b0,off0,none⟩) wr (htk.later hbw) hgl qO;have hglen:=eE (dD bs l k) u;obtain⟨y,hy⟩:=qM ((gnL (dD bs l k) u).length);rw[hy]at hlk hes;obtain⟨w3,hw3⟩:=qM (wr.alloc (.cells #[.int .i64 (y:Int)] 3));have HO3:Hid (w3.ownsRow W4.heap.size 3 1 u9 k (aF (erG bs l k))):=Lh (by rw[<-hw3];exact World.ownsRow.alloc hown _);have HC3:Hid (w3.cell? ⟨wr.heap.size,0,none⟩=some (.int .i64 (y:Int))):=Lh (by rw[<-hw3];exact bf wr _ _ _ rfl);have HB3':Hid (Below W4.heap.size W4 w3):=Lh (by rw[<-hw3];exact hbw.alloc hbw.size _);have HW3:=Lh hw3;have HLK:=Lh hlk;have HES:=Lh hes;have HST:=Lh hst;have hdr:(bs.drop (B+u)).length=r-u:=by
    have h1:=HMM.out;rw[List.length_drop];omega
   have hd2:=hdd.le.1;rw[hdr]at hd2;have HDR:=Lh hdr;have HDD:=Lh hdd;have HBS:=Lh hr;have hkk:k<=100:=by have:=HBL.out;omega
   clear hown hbw hst hsl hmk hgg hes hs' hu htk hdd hgl hlk hy hw3 hdr hv0 hB hdl hr hglen;go_wp2_with fail;refine HLK.out.mono ?_;rintro e w' ⟨rfl,rfl⟩;go_wp2_with (first|rw[HW3.out]|(at_builtin;refine bC rfl (.tmp 45) (.tmp 48) rfl W4.heap.size _ k (erG bs l k) rfl HO3.out _ (y:Int) rfl HC3.out qO HB3'.out.size ?_))
   intro v' w4 hv hgw;have HV4:Hid (w4.ownsRow W4.heap.size 3 1 v' (k+1) (aF (erG bs l (k+1)))):=Lh (by rw[HES.out];exact hv);have HBX:=Lh (aw HB3'.out HO3.out hgw);clear hv hgw;by_cases hcm:c0=u
   ·have hdz:bs.drop (B+u)=[]:=List.eq_nil_of_length_eq_zero (by rw[HDR.out];omega);have HDZ:=Lh hdz;clear hdz;go_wp2_with fail;go_roundw
    case rel=>exact⟨k+1,B+u,qO,by have:=HST.out;omega,by go_num,⟨_,_,by rw[HDR.out],by rw[HDZ.out];exact RbIs.empty _ _ (by unfold maxLen;omega) qS⟩,HV4.out,HBX.out⟩
    case measure=>simp[intOf];omega
   ·go_wp2_with fail;go_roundw
    case rel=>exact⟨k+1,B+u,qO,by have:=HST.out;omega,by go_num,⟨_,_,by rw[HDR.out],HDD.out⟩,HV4.out,HBX.out⟩
    case measure=>simp[intOf];omega
  ·obtain rfl:k=l.length:=qO;obtain⟨oz,cz,rfl,hz⟩:=bD hown (by rw[dX]);have HZ:=Lh hz;have HBX:=Lh hbw;clear hown hz hbw hB hv0 hdl hr;go_wp2_with fail;refine bodyPost_ret (results_tmp2 rfl _ _ _) rfl ?_;exact⟨_,_,rfl,by rw[HEO.out];exact⟨oz,cz,by rw[dX];rfl,HZ.out⟩,HSV.out _,Ks HB2.out (Ks HB4.out HBX.out)⟩
namespace Er
theorem unwrap16_any:ee:=by
 intro W a v hc hs;obtain⟨b,off,sp⟩:=a;dsimp only at hs hc;subst hs;go_enter Tryz.func250,Tryz.ntmps250
 go_wp2
 go_ret;exact⟨rfl,rfl⟩
end Er
section
open Go.ChangeShapes Go.WideShapes Go.ChangeAt
theorem tK{H:Type}{enc:TypeId×Value->H}{P:Program}{W:World}{fuel:Nat}{t e:TypeId}{c0:Value}{y:DataW H×List MemPlace}
  (ht:P.underlying t=some (.slice e)) (he:P.underlying e=some (.int .i64)) (hc:P.cellsOf e=1)
  (h:DataW.trod enc P W 0 (fun _=>true) true fuel t [c0]=some y) (hlt:∀x∈y.2,x.block<W.heap.size):
  ∃(o:Option Addr)(c:Nat)(z:List Int),c0=.slice o z.length c/\RowIs W o (aF z) c/\∀n∈z,bG n:=by
 rcases open_ints ht he hc h with ⟨hcs,hx⟩|⟨a,len,cap,zs,hcs,_,hl,hm,hz,hx,hcell,hwz⟩
 ·simp at hcs;subst hcs;exact⟨none,0,[],rfl,⟨Nat.le_refl _,Nat.zero_le _,fun _=>rfl,fun h=>absurd h (by simp[aF])⟩,qS⟩
 ·simp at hcs;subst hcs;subst hx;simp only[if_true]at hz;have hlen:(zs.take len).length=len:=by simp;omega
  refine⟨some a,cap,zs.take len,by rw[hlen],⟨by simp[aF];omega,hm,(fun h=>by cases h),fun h0=>?_⟩,fun n hn=>i64_wf (hwz n (List.mem_of_mem_take hn))⟩;have h1:0<len:=by simp[aF]at h0;omega
  obtain⟨b,off,spot⟩:=a;have hspot:spot=none:=by simpa[Addr.add]using World.cell?_spot (hcell 0 qO)
  subst hspot;refine⟨b,off,rfl,hlt (.cell b off) (MemPlace.mem_row.2 ⟨0,qO,qS⟩),fun i v hv=>?_⟩;have hi:i<len:=by
   have:=(List.getElem?_eq_some_iff.1 hv).1;simp[aF]at this;omega
  have hc2:=hcell i qO;rw[add_plain]at hc2;rw[hc2,<-hv];have hi2:i<zs.length:=qO;unfold aF;rw[List.getElem?_map,List.getElem?_take_of_lt hi,List.getElem?_eq_getElem hi2,Option.map_some,List.getD_eq_getElem?_getD,List.getElem?_eq_getElem hi2];rfl
theorem open_rep17{H:Type}{enc:TypeId×Value->H}{P:Program}{W:World}{r:Reach}{base:Nat}{t e:TypeId}{f0 f1 f2:Field}{v:Value}{d:DataW H}{p:List MemPlace}
  (ht:P.underlying t=some (.struct #[f0,f1,f2])) (hct:P.cellsOf t=3) (o0:f0.offset=0) (o1:f1.offset=1) (o2:f2.offset=2) (c0:P.cellsOf f0.type=1) (c1:P.cellsOf f1.type=1) (c2:P.cellsOf f2.type=1)
  (u0:P.underlying f0.type=some (.int .i64)) (u1:P.underlying f1.type=some (.slice e)) (u2:P.underlying f2.type=some (.slice e)) (he:P.underlying e=some (.int .i64)) (ce:P.cellsOf e=1) (hval:Value.okWide P W r base t v)
  (h:DataW.Trod enc P W 0 (fun _=>true) true t v d p) (hlt:∀x∈p,x.block<W.heap.size):
  ∃(x0:Int)(oE oC:Option Addr)(cE cC:Nat)(E C:List Int),v=.agg #[.int .i64 x0,.slice oE E.length cE,.slice oC C.length cC]/\RowIs W oE (aF E) cE/\RowIs W oC (aF C) cC/\(∀n∈E,bG n)/\∀n∈C,bG n:=by
 obtain⟨cs,rfl,hsz⟩:∃cs,v=.agg cs/\cs.size=P.cellsOf t:=by
  simp only[Value.okWide,ht]at hval;obtain⟨cs,h1,h2,_⟩:=hval;exact⟨cs,h1,h2⟩
 obtain⟨fuel,hf⟩:=h;obtain⟨y0,y1,y2,n,hx,hl,g0,g1,g2⟩:=Go.Deep.trod_struct3 ht hf;rw[hct]at hsz;obtain⟨l⟩:=cs
 match l,hsz with
 |[a,b,c],_=>
  simp only[Value.cells,o0,o1,o2,c0,c1,c2,List.drop_zero,List.drop_succ_cons,List.take_succ_cons,List.take_zero]at g0 g1 g2;simp only[Prod.mk.injEq]at hx;obtain⟨rfl,rfl⟩:=hx;obtain⟨k,hk,_,hw⟩:=DataW.trod_int u0 g0;obtain⟨oE,cE,E,hE,rE,iE⟩:=tK u1 he ce g1 (fun x hx=>hlt x (by simp[hx]));obtain⟨oC,cC,C,hC,rC,iC⟩:=tK u2 he ce g2 (fun x hx=>hlt x (by simp[hx]));refine⟨k,oE,oC,cE,cC,E,C,?_,rE,rC,iE,iC⟩;have ha:a=.int .i64 k:=by simpa using hk
  rw[ha,hE,hC]
end
