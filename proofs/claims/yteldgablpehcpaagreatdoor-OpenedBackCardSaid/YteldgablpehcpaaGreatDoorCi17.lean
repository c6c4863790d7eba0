/- Ci17 -/
import Derived.Test.YteldgablpehcpaaGreatDoorCh17
set_option linter.unusedVariables false
set_option linter.unusedSimpArgs false
set_option maxRecDepth 100000
set_option maxHeartbeats 8000000
namespace Go.Proofs.YteldgablpehcpaaGreatDoor
open Go.RowKit
theorem lF{P:Program}{fn:Func}{t p u:Tmp}{ty:TypeId}(h:fn.results=#[.tmp t,.cell p ty,.tmp u])(tmps:Array Value)(w:World)(g:Nat)(T:TypeId)(cs:Array Value)(fr:Nat×Nat)(d:TypeDesc)
  (hp:tmps.getD p undef=.pointer (some ⟨g,0,none⟩)) (hg:w.heap[g]? =some (.cells cs T fr))
  (hu:P.underlying ty=some d) (hd:(match d with| .struct _| .array _ _=>true|_=>false)=true) (hi:(P.info? ty).map (·.size)=some cs.size):
  (results fn tmps).run P w=.ok (.tuple #[tmps.getD t undef,.agg cs,tmps.getD u undef]) w:=by
 have hp':tmps[p]?.getD undef=.pointer (some ⟨g,0,none⟩):=by simpa using hp
 simp[results,h,hp',asAddr,run_loadVar_row w g T ty cs fr d hg hu hd hi,Sem.run_bind,Result.andThen]
theorem kE:(Tryz.prog.info? 39).map (·.size)=some 3:=qK
theorem q9(w:World):Sem.run Tryz.prog (zeroValue 39) w=.ok (.agg #[.int .i64 0,.slice none 0 0,.slice none 0 0]) w:=qK
theorem Kd(w:World):(Instr.build 39 #[]).run Tryz.prog w=.ok (.agg #[.int .i64 0,.slice none 0 0,.slice none 0 0]) w:=qK
theorem Ce(g:Int)(o1 o2:Option Addr)(l1 c1 l2 c2:Nat)(w:World):(Instr.build 39 #[(0,.int .i64 g),(1,.slice o1 l1 c1),(2,.slice o2 l2 c2)]).run Tryz.prog w=.ok (.agg #[.int .i64 g,.slice o1 l1 c1,.slice o2 l2 c2]) w:=qK
theorem FV(w:World):Sem.run Tryz.prog (zeroValue 88) w=.ok (.agg #[.slice none 0 0,.slice none 0 0,.slice none 0 0]) w:=qK
theorem Cf{a b c:Value}(h1:a.oneCell'=true)(h2:b.oneCell'=true)(h3:c.oneCell'=true):(#[a,b,c]:Array Value).all (·.oneCell')=true:=by simp[h1,h2,h3]
theorem rh{P:Program}{o:Oper}{a:Act}{w:World}{T:TypeId}{fs:Array (Nat×Operand)}{vs:Array (Nat×Value)}{V:Value}(ho:o.op=.build T fs)(he:(fs.map fun(i,x)=>(i,a.eval x))=vs)(h:(Instr.build T vs).run P w=.ok V w):
  (execOp a.eval o).run P w=.ok (.value V) w:=by
 subst he;simp[execOp,ho,h,Result.andThen]
theorem lq(w:World):IntsV [] (.slice none 0 0) w:=⟨none,0,rfl,RowIs.empty none 0 (Nat.zero_le _) (fun _=>rfl)⟩
theorem IntsV.later17{z:List Int}{x:Value}{w w':World}(h:IntsV z x w)(hb:Below w.heap.size w w'):IntsV z x w':=by
 obtain⟨o,c,e,h⟩:=h;exact⟨o,c,e,h.later hb⟩
theorem wY{A:Nat->Addr}{p:Pm15}{k:Nat}{W:World}{v:Value}(h:SeV A p k W v)(hk:Da.a6 p k≠0):TI v:=by
 rcases h with ⟨h0,⟨h1,_⟩|⟨_,b,rfl,_⟩⟩|⟨h0,rfl⟩
 ·exact absurd h1 h0
 ·exact Hi b
 ·unfold Da.a6 at hk;rw[if_pos h0]at hk;unfold eD;rw[if_neg hk];exact C6 _
theorem my{W:World}{g c:Nat}{o:Option Addr}{xs:List Value}(h:RowIs W o xs c)(hf:∀a,o=some a->a.block≠g)(C:Array Value):RowIs (W.setRow g C) o xs c:=
 h.kept (kn W g C) (fun _ ad e h2=>hf ad e (by injection h2))
theorem RowV.keep17{z:BL}{x:Value}{W:World}{g:Nat}(h:RowV z x W)(hf:∀a q c,x=.slice (some a) q c->a.block≠g)(C:Array Value):RowV z x (W.setRow g C):=by
 obtain⟨o,c,rfl,hr⟩:=h;exact⟨o,c,rfl,my hr (fun a e=>hf a _ _ (by rw[e])) C⟩
theorem IntsV.keep17{z:List Int}{x:Value}{W:World}{g:Nat}(h:IntsV z x W)(hf:∀a q c,x=.slice (some a) q c->a.block≠g)(C:Array Value):IntsV z x (W.setRow g C):=by
 obtain⟨o,c,rfl,hr⟩:=h;exact⟨o,c,rfl,my hr (fun a e=>hf a _ _ (by rw[e])) C⟩
theorem Ke(ZR:Array Value)(hZR:#[.int .i64 0,.slice none 0 0,.slice none 0 0]=ZR)(hzr:∀w,Sem.run Tryz.prog (zeroValue 39) w=.ok (.agg ZR) w)(hbr:∀w,(Instr.build 39 #[]).run Tryz.prog w=.ok (.agg ZR) w)
  (ZB:Array Value) (hZB:#[.slice none 0 0,.slice none 0 0,.slice none 0 0]=ZB) (hzb:∀w,Sem.run Tryz.prog (zeroValue 88) w=.ok (.agg ZB) w)
  (A:Nat->Addr) (W:World) (oK:Option Addr) (cK:Nat) (K9:BL) (N:Int) (p:Pm15) (oS:Option Addr) (cS:Nat) (S:L8)
  (hK9:RowIs W oK (bytesV K9) cK) (hS:RbIs W oS S cS) (hKl:K9.length<=100) (hF:kg S) (hN:bG N) (hok:p.ok) (hV:Cds W) (hE:E17 W A):
  Calls Tryz.prog 11 #[.slice oK K9.length cK,.int .i64 N,.agg (pmA p),.slice oS S.length cS] W fun e w'=>∃R F g E C x y z v,Da.Op17 K9 N p S R F g E C/\e=.returned (.tuple #[x,.agg #[.int .i64 ((g:Nat):Int),y,z],v])/\RowV F x w'/\IntsV E y w'/\IntsV C z w'/\SeV A p R w' v/\Below W.heap.size W w':=by
 obtain⟨OB,hOB⟩:=qM (Da.fS K9 N p S.length);have HBAD:Hid (Da.a6 p OB≠0->Da.Op17 K9 N p S OB [] 0 [] []):=Lh fun h=>by
  unfold Da.Op17;rw[hOB];exact .inl ⟨h,rfl,rfl,rfl,rfl,rfl⟩
 obtain⟨g,hg⟩:=qM W.heap.size;obtain⟨PA,hPA⟩:=qM (pmA p);obtain⟨W2,hW2⟩:=qM ((W.alloc (.cells PA 24)).alloc (.cells ZR 39));have hb2:Below W.heap.size W W2:=by rw[<-hW2];exact Ks (aH _ _) (aH _ _)
 have hA2:Arr W2 g 24 (pmL p):=by
  have h1:Arr (W.alloc (.cells PA 24)) g 24 (pmL p):=by rw[<-hPA,<-hg];exact World.alloc_heap_new W _
  rw[<-hW2];exact h1.alloc _
 have hL2:W2.heap[g+1]? =some (.cells ZR 39 (0,0)):=by rw[<-hW2,<-hg];exact ff _ _ _ _
 have hbk:=zy A W2 oK cK K9 N p oS cS S (hK9.later hb2) (hS.later hb2) hKl hF hN hok (hV.later hb2) (hE.later hb2);have HPP:Hid (W2.heap[g]? =some (.cells PA 24 (0,0))):=Lh (by
  have:=hA2;unfold Arr at this;rw[show(pmL p).toArray=PA from hPA]at this;exact this)
 have HPS:Hid ((Tryz.prog.info? 24).map (·.size)=some PA.size):=Lh (by rw[<-hPA];exact aM);have HSZ:Hid (∀w',Below W2.heap.size W2 w'->w'.cell? ⟨g,0,none⟩=some (.int .i64 p.sz)):=Lh fun w' hb=>by rw[(hA2.later hb hA2.lt).cell];rfl
 have HLZ:Hid (∀w',Below W2.heap.size W2 w'->w'.heap[g+1]? =some (.cells ZR 39 (0,0))):=Lh fun w' hb=>(hb.block (g+1) (aE.1 hL2).1).trans hL2
 have HRS:Hid ((Tryz.prog.info? 39).map (·.size)=some ZR.size):=Lh (by rw[kE,<-hZR];rfl);have HRO:Hid (ZR.all (·.oneCell')=true):=Lh (by rw[<-hZR];exact Cf rfl rfl rfl);have HR3:Hid (ZR.size=3):=Lh (by rw[<-hZR];rfl);obtain⟨GN,hGN⟩:=qM ((if Da.a6 p OB=0 then Da.lD (Da.aQ K9 N 3) S (Da.n16 p)else 0));obtain⟨RS,hRS⟩:=qM ((if Da.a6 p OB=0 then Da.jK K9 N p S else[]));rw[hOB,hGN,hRS,hPA]at hbk;rw[hPA];have HOKK:Hid (Da.a6 p OB=0->GN=Da.lD (Da.aQ K9 N 3) S (Da.n16 p)/\RS=Da.jK K9 N p S):=Lh fun h=>⟨by rw[<-hGN,if_pos h],by rw[<-hRS,if_pos h]⟩
 obtain⟨lk,hlk⟩:=qM K9.length;obtain⟨m,hm⟩:=qM S.length;rw[hlk,hm]at hbk⊢;rw[hm]at hOB;have HBK:=Lh hbk;have HG:=Lh hg;have HW2:=Lh hW2;have HB2:=Lh hb2;have HV:=Lh hV;have HE:=Lh hE;have HZR:=Lh hZR;have HZB:=Lh hZB;have HOB:=Lh hOB;have HMM:=Lh hm;have hnn:=dO;clear hbk hg hW2 hb2 hA2 hL2 hV hE hZR hZB hK9 hS hKl hlk hPA hok hN hOB hGN hRS hF hm;go_enter Tryz.func11,Tryz.ntmps11
 go_upto_region 1 with fail
 rw[HW2.out,HG.out];apply wp_region_lit;iterate 2 (refine qP ?_)
 refine wpList_load_row rfl 24 (.tmp 6) rfl g rfl 24 PA (0,0) _ HPP.out Tryz.underlying24 rfl HPS.out ?_;refine qP ?_;refine wpList_plain rfl (fun K hK=>?_);go_simp;refine HBK.out.mono ?_;rintro e W3 ⟨x,v,rfl,hx,hv,hb3⟩;refine hK _ _ ?_;clear hK K HBK;have HB3:=Lh hb3;clear hb3;iterate 7 (refine qP ?_)
 by_cases hse:Da.a6 p OB=0
 rotate_left
 ·obtain⟨hn1,hn2⟩:=wY hv hse;have HLW:=Lh (HLZ.out W3 HB3.out);have HBB:=Lh (HBAD.out hse);have HBF:Hid (Below W3.heap.size W3 (W3.setRow (g+1) ZR)∨True):=Lh (.inr trivial);have HBW:Hid (Below W.heap.size W (W3.setRow (g+1) ZR)):=Lh ((Ks HB2.out HB3.out).trans (aA (by have:=HG.out;omega)));have HSV:Hid (SeV A p OB (W3.setRow (g+1) ZR) v):=Lh (by
   rcases hv with ⟨h0,h1⟩|h1
   ·exact .inl ⟨h0,mu h1 HLW.out qD ZR⟩
   ·exact .inr h1)
  clear hse hv hx HBF;go_upto_region 3 with fail
  apply wp_region_lit;iterate 3 (refine qP ?_)
  refine wpList_store_rowTo rfl 39 (.tmp 9) (.tmp 26) rfl rfl (g+1) ZR rfl rfl 39 ZR HLW.out HRS.out rfl HRO.out ?_;go_wp2_with fail;refine bodyPost_ret (lF rfl _ _ (g+1) 39 ZR (0,0) _ rfl (setRow_heap _ _ _ _ _ _ HLW.out) Tryz.underlying39 rfl HRS.out) rfl ?_;exact⟨OB,[],0,[],[],_,_,_,_,HBB.out,by rw[<-HZR.out];rfl,RowV.nil _,lq _,lq _,HSV.out,HBW.out⟩
 have h0:Da.aU p=0:=by
  by_cases h:Da.aU p=0
  ·exact h
  ·exact absurd hse (Da.ln h OB)
 have hob:OB=0:=by
  unfold Da.a6 at hse;rw[if_pos h0]at hse;exact hse
 subst hob;obtain⟨rfl,rfl⟩:=HOKK.out hse;obtain rfl:v=.nilIface:=by
  rcases hv with ⟨h,_⟩|⟨_,h⟩
  ·exact absurd h0 h
  ·exact h
 have hR:=Da.cN h0;obtain⟨s,hs⟩:∃s:Nat,p.sz=(s:Int):=⟨p.sz.toNat,by have:=hR.s0;omega⟩;have hs2:s<=2000:=by have:=hR.s1;omega
 have hst:p.sz.toNat=s:=qO;obtain⟨l,hl⟩:=qM (shp s);have hbl:(Da.jK K9 N p S).length=bc l+32*l.length:=by
  rw[Da.oM];unfold Da.ae gi;rw[hst,<-hl,db];rfl
 obtain⟨B,hB⟩:=qM (Da.jK K9 N p S);obtain⟨T,hT⟩:=qM B.length;rw[hB]at hx hbl;rw[hT]at hbl;obtain⟨ox,cx,rfl,hrx⟩:=hx;have hre:=E2 B s T cx l hl ox W3 A (HE.out.later (Ks HB2.out HB3.out)).s hrx hs2 hT hbl;have HSQ:Hid (∀w',Below W2.heap.size W2 w'->w'.cell? ⟨g,0,none⟩=some (.int .i64 (s:Int))):=Lh fun w' hb=>by rw[<-hs];exact HSZ.out w' hb
 have HLOST:Hid ((∀V,MndAll B l V l.length->¬j3 ((af l V l.length).drop s))->Da.Op17 K9 N p S 17 [] 0 [] []):=Lh fun h=>by
  unfold Da.Op17;rw[HMM.out,HOB.out,hst,hl,hB];exact .inr (.inl ⟨hse,h,rfl,rfl,rfl,rfl,rfl⟩)
 have HGOOD:Hid (∀V,MndAll B l V l.length->j3 ((af l V l.length).drop s)->Da.Op17 K9 N p S 0 ((af l V l.length).take s) (Da.lD (Da.aQ K9 N 3) S (Da.n16 p)) (erG B l l.length) (chG B l V l.length)):=Lh fun V h1 h2=>by
  unfold Da.Op17;rw[HMM.out,HOB.out,hst,hl,hB];exact .inr (.inr ⟨hse,V,h1,h2,rfl,rfl,rfl,rfl,rfl⟩)
 obtain⟨G,hG⟩:=qM (Da.lD (Da.aQ K9 N 3) S (Da.n16 p));rw[hG]at HGOOD⊢;rw[hT];have HRE:=Lh hre;have H0:=Lh h0;have hsc:=HSQ.out W3 HB3.out;clear hre h0 hse hR hs hs2 hst hl hbl hB hT hrx hG HBAD HOKK HSZ HMM HOB hv;go_upto_region 4 with fail
 apply wp_region_lit;iterate 3 (refine qP ?_)
 refine wpList_plain rfl (fun K hK=>?_);go_simp;refine HRE.out.mono ?_;intro e V2 hto;have hto2:∃x0 x1 x2 ev,e=.returned (.tuple #[.agg #[x0,x1,x2],ev])/\Below W3.heap.size W3 V2/\
   (((∀V,MndAll B l V l.length->¬j3 ((af l V l.length).drop s))/\(x0=.slice none 0 0/\x1=.slice none 0 0/\x2=.slice none 0 0)/\ev=eD A 17)∨
   ∃V,MndAll B l V l.length/\j3 ((af l V l.length).drop s)/\ev=.nilIface/\RowV ((af l V l.length).take s) x0 V2/\IntsV (erG B l l.length) x1 V2/\IntsV (chG B l V l.length) x2 V2/\∀x a q c,x=x0∨x=x1∨x=x2->x=.slice (some a) q c->W3.heap.size<=a.block):=by
  obtain⟨hb,⟨hno,rfl⟩|⟨V,x0,x1,x2,h1,h2,rfl,h3,h4,h5,h6⟩⟩:=hto
  ·exact⟨_,_,_,_,rfl,hb,.inl ⟨hno,⟨rfl,rfl,rfl⟩,rfl⟩⟩
  ·exact⟨x0,x1,x2,_,rfl,hb,.inr ⟨V,h1,h2,rfl,h3,h4,h5,h6⟩⟩
 clear hto;obtain⟨x0,x1,x2,ev,rfl,hb4,hwh⟩:=hto2;refine hK _ _ ?_;clear hK K HRE hsc;obtain⟨⟨o0,l0,c0,hx0⟩,⟨o1,l1,c1,hx1⟩,⟨o2,l2,c2,hx2⟩⟩:(∃o l c,x0=.slice o l c)/\(∃o l c,x1=.slice o l c)/\∃o l c,x2=.slice o l c:=by
  rcases hwh with ⟨_,⟨rfl,rfl,rfl⟩,_⟩|⟨V,_,_,_,⟨_,_,rfl,_⟩,⟨_,_,rfl,_⟩,⟨_,_,rfl,_⟩,_⟩
  ·exact⟨⟨_,_,_,rfl⟩,⟨_,_,_,rfl⟩,⟨_,_,_,rfl⟩⟩
  ·exact⟨⟨_,_,_,rfl⟩,⟨_,_,_,rfl⟩,⟨_,_,_,rfl⟩⟩
 subst hx0;subst hx1;subst hx2;obtain⟨gk,hgk⟩:=qM V2.heap.size;obtain⟨FA,hFA⟩:∃FA:Array Value,(#[.slice o0 l0 c0,.slice o1 l1 c1,.slice o2 l2 c2]:Array Value)=FA:=⟨_,rfl⟩;have HFS:Hid ((Tryz.prog.info? 88).map (·.size)=some FA.size):=Lh (by rw[ml,<-hFA];rfl);have HFZ:Hid (ZB.size=FA.size):=Lh (by rw[<-HZB.out,<-hFA];rfl);have HFO:Hid (FA.all (·.oneCell')=true):=Lh (by rw[<-hFA];exact Cf rfl rfl rfl);obtain⟨V3,hV3⟩:=qM (V2.alloc (.cells ZB 88));have hz3:V3.heap[gk]? =some (.cells ZB 88 (0,0)):=by rw[<-hV3,<-hgk];exact World.alloc_heap_new V2 _
 obtain⟨V4,hV4⟩:=qM (V3.setRow gk FA);have hA4:V4.heap[gk]? =some (.cells #[.slice o0 l0 c0,.slice o1 l1 c1,.slice o2 l2 c2] 88 (0,0)):=by rw[<-hV4,hFA];exact setRow_heap _ _ _ _ _ _ hz3
 have hb5:Below V2.heap.size V2 V4:=by rw[<-hV4,<-hV3];exact(aH _ _).trans (aA (Nat.le_of_eq hgk))
 have HA4:=Lh hA4;have HZ3:=Lh hz3;have HV3:=Lh hV3;have HV4:=Lh hV4;have HGK:=Lh hgk;have HB4:=Lh (Ks (Ks HB3.out hb4) hb5);have HWH:=Lh hwh;have HB5:=Lh hb5;rw[hFA];clear hb4 hwh hgk hFA hV3 hz3 hV4 hA4 hb5;iterate 4 (refine qP ?_)
 rw[HV3.out,HGK.out];refine wpList_store_rowTo rfl 88 (.tmp 14) (.tmp 33) rfl rfl gk FA rfl rfl 88 ZB HZ3.out HFS.out HFZ.out HFO.out ?_;rw[HV4.out];clear HV3 HV4 HZ3 HFS HFZ HFO;refine qP ?_;have HLW:=Lh (HLZ.out V4 HB4.out);rcases HWH.out with ⟨hno,_,rfl⟩|⟨V,hM,hz,rfl,hx0,hx1,hx2,hfr⟩
 ·have HLO:=Lh (HLOST.out hno);have HBW:Hid (Below W.heap.size W (V4.setRow (g+1) ZR)):=Lh ((Ks HB2.out HB4.out).trans (aA (by have:=HG.out;omega)));have HSV:Hid (∀w',SeV A p 17 w' (eD A 17)):=Lh fun w'=>.inr ⟨H0.out,rfl⟩
  obtain⟨a1,ha1⟩:=ii A 17 qO;rw[ha1]at HSV⊢;clear ha1 hno HWH;go_upto_region 6 with fail
  apply wp_region_lit;iterate 3 (refine qP ?_)
  refine wpList_store_rowTo rfl 39 (.tmp 9) (.tmp 37) rfl rfl (g+1) ZR rfl rfl 39 ZR HLW.out HRS.out rfl HRO.out ?_;go_wp2_with fail;refine bodyPost_ret (lF rfl _ _ (g+1) 39 ZR (0,0) _ rfl (setRow_heap _ _ _ _ _ _ HLW.out) Tryz.underlying39 rfl HRS.out) rfl ?_;exact⟨17,[],0,[],[],_,_,_,_,HLO.out,by rw[<-HZR.out];rfl,RowV.nil _,lq _,lq _,HSV.out _,HBW.out⟩
 have HGD:=Lh (HGOOD.out V hM hz);have hgl:=(aE.1 (HLZ.out W3 HB3.out)).1;have HF0:Hid (∀a q c,Value.slice o0 l0 c0=.slice (some a) q c->a.block≠g+1):=Lh fun a q c e=>by have:=hfr _ a q c (.inl rfl) e;omega
 have HF1:Hid (∀a q c,Value.slice o1 l1 c1=.slice (some a) q c->a.block≠g+1):=Lh fun a q c e=>by have:=hfr _ a q c (.inr (.inl rfl)) e;omega
 have HF2:Hid (∀a q c,Value.slice o2 l2 c2=.slice (some a) q c->a.block≠g+1):=Lh fun a q c e=>by have:=hfr _ a q c (.inr (.inr rfl)) e;omega
 clear hfr hgl;have hx0':=hx0.later HB5.out;have hx1':=hx1.later17 HB5.out;have hx2':=hx2.later17 HB5.out;obtain⟨RA,hRA⟩:∃RA:Array Value,(#[.int .i64 ((G:Nat):Int),.slice o1 l1 c1,.slice o2 l2 c2]:Array Value)=RA:=⟨_,rfl⟩;have HBT:Hid (∀w,(Instr.build 39 #[(0,.int .i64 ((G:Nat):Int)),(1,.slice o1 l1 c1),(2,.slice o2 l2 c2)]).run Tryz.prog w=.ok (.agg RA) w):=Lh fun w=>by rw[<-hRA];exact Ce _ _ _ _ _ _ _ w
 have HAS:Hid ((Tryz.prog.info? 39).map (·.size)=some RA.size):=Lh (by rw[kE,<-hRA];rfl);have HAQ:Hid (ZR.size=RA.size):=Lh (by rw[HR3.out,<-hRA];rfl);have HAO:Hid (RA.all (·.oneCell')=true):=Lh (by rw[<-hRA];exact Cf rfl rfl rfl);obtain⟨CC,hC⟩:∃CC:World->Prop,(fun v:World=>v.heap[gk]? =some (.cells #[.slice o0 l0 c0,.slice o1 l1 c1,.slice o2 l2 c2] 88 (0,0)))=CC:=⟨_,rfl⟩;have HCC:Hid (∀v,CC v->v.cell? ⟨gk,0,none⟩=some (.slice o0 l0 c0)/\v.cell? ⟨gk,1,none⟩=some (.slice o1 l1 c1)/\v.cell? ⟨gk,2,none⟩=some (.slice o2 l2 c2)):=Lh fun v hv=>by
  rw[<-hC]at hv;exact⟨(cP hv).1,(cP hv).2.1,(cP hv).2.2.1⟩
 have hCC:CC {V4 with drawn:=V4.drawn+1}:=by rw[<-hC];exact HA4.out
 have hC1:CC (World.setRow {V4 with drawn:=V4.drawn+1} (g+1) RA):=by
  rw[<-hC];show(World.setRow {V4 with drawn:=V4.drawn+1} (g+1) RA).heap[gk]? =_;rw[setRow_other _ (g+1) gk RA (fun e=>by
   have h1:=HA4.out;have h2:=HLW.out;rw[e]at h1;rw[h1]at h2;injection h2 with h2
   injection h2 with _ h2
   exact absurd h2 qD)]
  exact HA4.out
 have HLD:Hid (({V4 with drawn:=V4.drawn+1}:World).heap[g+1]? =some (.cells ZR 39 (0,0))):=Lh HLW.out;have HBD:Hid (Below V4.heap.size V4 {V4 with drawn:=V4.drawn+1}):=Lh (Kit.dn' V4 1);have HX0:=Lh hx0';have HX1:=Lh hx1';have HX2:=Lh hx2';have HRA:=Lh hRA;have HBX:Hid (Below V4.heap.size V4 {V4 with drawn:=V4.drawn+1}):=HBD;clear hM hz hx0 hx1 hx2 hx0' hx1' hx2' hRA hC HWH;go_upto_region 7 with fail
 refine wp_region_held (S:=CC) qK ?_;refine aI (i:=0) (x:=.pointer (some ⟨gk,0,none⟩)) rfl rfl qK qK qK qI (Or.inl ⟨qK,fun w hw=>qG⟩) hCC ?_;simp only[qA,qZ,qC];refine aI (i:=1) (x:=.slice o0 l0 c0) rfl rfl qK qK qK qI (Or.inl ⟨qK,fun w hw=>by have hc:=(HCC.out w hw).1;(go_simp<;>with_reducible rfl)⟩) hCC ?_;simp only[qA,qZ,qC];refine aI (i:=2) (x:=.int .i64 ((G:Nat):Int)) rfl rfl qK qK qK qI (Or.inl ⟨qK,fun w hw=>qG⟩) hCC ?_;simp only[qA,qZ,qC];refine aI (i:=3) (x:=.pointer (some ⟨gk,1,none⟩)) rfl rfl qK qK qK qI (Or.inl ⟨qK,fun w hw=>qG⟩) hCC ?_;simp only[qA,qZ,qC];refine aI (i:=4) (x:=.slice o1 l1 c1) rfl rfl qK qK qK qI (Or.inl ⟨qK,fun w hw=>by have hc:=(HCC.out w hw).2.1;(go_simp<;>with_reducible rfl)⟩) hCC ?_;simp only[qA,qZ,qC];refine aI (i:=5) (x:=.pointer (some ⟨gk,2,none⟩)) rfl rfl qK qK qK qI (Or.inl ⟨qK,fun w hw=>qG⟩) hCC ?_;simp only[qA,qZ,qC];refine aI (i:=6) (x:=.slice o2 l2 c2) rfl rfl qK qK qK qI (Or.inl ⟨qK,fun w hw=>by have hc:=(HCC.out w hw).2.2;(go_simp<;>with_reducible rfl)⟩) hCC ?_;simp only[qA,qZ,qC];refine aI (i:=7) (x:=.agg RA) rfl rfl qK qK qK qI (Or.inl ⟨qK,fun w hw=>rh rfl (by simp[Act.eval]) (HBT.out w)⟩) hCC ?_;simp only[qA,qZ,qC];refine aI (i:=8) (x:=.slice o0 l0 c0) rfl rfl qK qK qK qI (Or.inl ⟨qK,fun w hw=>qG⟩) hCC ?_;simp only[qA,qZ,qC];refine dF (i:=9) qK rfl qK (fun K hK=>?_);refine wp_store_row 39 (.tmp 9) (.tmp 46) rfl (g+1) RA rfl rfl 39 ZR HLD.out HAS.out HAQ.out HAO.out (hK _ _ hC1 ?_);clear hK K;simp only[Act.put];refine aI (i:=10) (x:=.nilIface) rfl rfl qK qK qK qI (Or.inl ⟨qK,fun w hw=>qG⟩) hC1 ?_;simp only[qA,qZ,qC];refine wpAnyH_done qK ?_ _;obtain⟨V5,hV5⟩:∃V5,({V4 with drawn:=V4.drawn+1}:World)=V5:=⟨_,rfl⟩;have hbd:Below V4.heap.size V4 V5:=by rw[<-hV5];exact HBD.out
 have hl5:V5.heap[g+1]? =some (.cells ZR 39 (0,0)):=by rw[<-hV5];exact HLW.out
 first|rw[hV5]|rw[show World.drew V4=V5 from hV5]
 have HBW:Hid (Below W.heap.size W (V5.setRow (g+1) RA)):=Lh ((Ks HB2.out (Ks HB4.out hbd)).trans (aA (by have:=HG.out;omega)));have HL5:=Lh hl5;have HBD5:=Lh hbd;clear hCC hC1 hV5 hbd hl5;go_wp2_with fail;refine bodyPost_ret (lF rfl _ _ (g+1) 39 RA (0,0) _ rfl (setRow_heap _ _ _ _ _ _ HL5.out) Tryz.underlying39 rfl HAS.out) rfl ?_;exact⟨0,_,G,_,_,HGD.out,.slice o0 l0 c0,.slice o1 l1 c1,.slice o2 l2 c2,.nilIface,by rw[<-HRA.out];rfl,(HX0.out.later HBD5.out).keep17 HF0.out RA,(HX1.out.later17 HBD5.out).keep17 HF1.out RA,(HX2.out.later17 HBD5.out).keep17 HF2.out RA,.inr ⟨H0.out,rfl⟩,HBW.out⟩
theorem wZ(A:Nat->Addr)(W:World)(oK:Option Addr)(cK:Nat)(K9:BL)(N:Int)(p:Pm15)(oS:Option Addr)(cS:Nat)(S:L8)
  (hK9:RowIs W oK (bytesV K9) cK) (hS:RbIs W oS S cS) (hKl:K9.length<=100) (hF:kg S) (hN:bG N) (hok:p.ok) (hV:Cds W) (hE:E17 W A):
  Calls Tryz.prog 11 #[.slice oK K9.length cK,.int .i64 N,.agg (pmA p),.slice oS S.length cS] W fun e w'=>∃R F g E C x y z v,Da.Op17 K9 N p S R F g E C/\e=.returned (.tuple #[x,.agg #[.int .i64 ((g:Nat):Int),y,z],v])/\RowV F x w'/\IntsV E y w'/\IntsV C z w'/\SeV A p R w' v/\Below W.heap.size W w':=Ke _ rfl q9 Kd _ rfl FV A W oK cK K9 N p oS cS S hK9 hS hKl hF hN hok hV hE
theorem Da.iq{p:Pm15}{k:Nat}(h:Da.a6 p k=0):Da.aU p=0/\k=0:=by
 have h0:Da.aU p=0:=by
  by_cases h0:Da.aU p=0
  ·exact h0
  ·exact absurd h (Da.ln h0 k)
 unfold Da.a6 at h;rw[if_pos h0]at h;exact⟨h0,h⟩
theorem Da.Op17.len{K:BL}{N:Int}{p:Pm15}{S:L8}{R:Nat}{F:BL}{g:Nat}{E C:List Int}(h:Da.Op17 K N p S R F g E C):F.length<=2000:=by
 rcases h with ⟨_,_,rfl,_⟩|⟨_,_,_,rfl,_⟩|⟨h0,V,_,_,_,rfl,_⟩
 ·simp
 ·simp
 ·have hR:=Da.cN (Da.iq h0).1;have h1:=hR.s1;rw[List.length_take];omega
theorem mz{P:Program}{o:Oper}{a:Act}{w:World}{ty t:TypeId}{x:Operand}{g:Nat}{cs:Array Value}{fr:Nat×Nat}{d:TypeDesc}(ho:o.op=.load ty x)(hx:a.eval x=.pointer (some ⟨g,0,none⟩))(hg:w.heap[g]? =some (.cells cs t fr))
  (hu:P.underlying ty=some d) (hd:(match d with| .struct _| .array _ _=>true|_=>false)=true) (hi:(P.info? ty).map (·.size)=some cs.size):(execOp a.eval o).run P w=.ok (.value (.agg cs)) w:=by
 unfold execOp;simp only[ho,hx,Instr.loadAt,Instr.sureAddr,Sem.run_bind,Sem.run_pure,Result.andThen_ok,run_loadVar_row w g t ty cs fr d hg hu hd hi]
