/- Bk17 -/
import Derived.Test.YteldgablpehcpaaGreatDoorYB
import Derived.Test.YteldgablpehcpaaGreatDoorAn17
import Derived.Test.YteldgablpehcpaaGreatDoorAl17
import Derived.Test.YteldgablpehcpaaGreatDoorCm17
set_option linter.unusedVariables false
set_option linter.unusedSimpArgs false
set_option maxRecDepth 100000
set_option maxHeartbeats 8000000
namespace Go.Proofs.YteldgablpehcpaaGreatDoor
open Go.RowKit
def aBP(kv:Value)(n:Int)(fv:Value)(p:Pm15):List Value:=[kv,.int .i64 n,fv]++pmL p
theorem aBV(x:Value)(r f:BL)(hr:r.length=32){W:World}{b:Nat}{T:TypeId}(h:Arr W b T (jJ x r f)):W.rangeAt b 33 (bytesV f):=h.range 33 _ fun j v hv=>by
 unfold jJ;rw[List.getElem?_append_right (by simp;omega),List.getElem?_append_right (by simp[hr])];simp only[List.length_singleton,bytesV_length,hr];rw[<-hv];congr 1
 omega
def aBT(K:BL)(N:Int)(F:BL)(p:Pm15)(W wB:World)(gO gS gL T M:Nat)(iv:Value)(wr:World):Prop:=
 ∃(k:Nat)(S:L8)(s:Nat->Bool)(L:Nat),k<=M/\iv=.int .i64 (k:Int)/\Bm17 W wB wr gO gS gL T S s L/\Po17 K N F p S s L k
def aBW(gB cap:Nat)(w:World)(jv:Value)(wr:World):Prop:=
 ∃(j:Nat)(r:BL),j<=8/\jv=.int .i64 (j:Int)/\r.length=8/\Buf wr gB cap r/\Below w.heap.size w wr
theorem aBG{A:Nat->Addr}{p:Pm15}{W:World}{v:Value}(h:SeV A p 0 W v)(h0:Da.aU p=0):v=.nilIface:=by
 rcases h with ⟨h1,_⟩|⟨_,h1⟩
 ·exact absurd h0 h1
 ·exact h1
theorem str_neq17(a:ByteArray)(W:World):(binOp .neq 9 (.string a) (.string a)).run Tryz.prog W=.ok (.bool false) W:=by
 have hu:= Tryz.underlying9;go_simp
theorem str_eql17(a:ByteArray)(W:World):(binOp .eql 9 (.string a) (.string a)).run Tryz.prog W=.ok (.bool true) W:=by
 have hu:= Tryz.underlying9;go_simp
theorem aBU(ZS ZR:Array Value)(hZS:(jJ (.slice none 0 0) Da.gJ Da.gJ).toArray=ZS)(hzs:∀w,Sem.run Tryz.prog (zeroValue 57) w=.ok (.agg ZS) w)(hZR:(#[.int .i64 0,.slice none 0 0,.slice none 0 0]:Array Value)=ZR)(hzr:∀w,Sem.run Tryz.prog (zeroValue 39) w=.ok (.agg ZR) w)
  (A:Nat->Addr) (MK F:BL) (ok oF:Option Addr) (ck cF:Nat) (N:Int) (p:Pm15) (oz:Option Addr) (cz:Nat) (zs:List HitT) (w:World)
  (hK:RowIs w ok (bytesV MK) ck) (hF:RowIs w oF (bytesV F) cF) (hZ:HitsIs w oz zs cz) (hN:bG N) (hok:p.ok) (hV:Cds w) (hE:E17 w A) (hc4:w.cell? ⟨1,0,none⟩=some (.iface 302 (.pointer (some (A 4))))):
  Calls Tryz.prog 4 #[.agg (mdA (.slice ok MK.length ck) N (.slice oF F.length cF) p),.slice oz zs.length cz] w fun e w'=>e=.returned (.bool true)/\Below w.heap.size w w':=by
 obtain⟨g,hg⟩:=qM w.heap.size;obtain⟨MA,hMA⟩:=qM (mdA (.slice ok MK.length ck) N (.slice oF F.length cF) p);obtain⟨W1,hW1⟩:=qM (w.alloc (.cells MA 26));have hb1:Below w.heap.size w W1:=by rw[<-hW1];exact aH _ _
 have hM1:Arr W1 g 26 (aBP (.slice ok MK.length ck) N (.slice oF F.length cF) p):=by rw[<-hW1,<-hMA,<-hg];exact World.alloc_heap_new w _
 have hK1:=hK.later hb1;have hF1:=hF.later hb1;have hZ1:=hZ.later hb1;have hV1:=hV.later hb1;have hE1:=hE.later hb1;have hc41:=(hb1.cell (de hc4)).trans hc4;obtain⟨PA,hPA⟩:=qM (pmA p);have HC0:Hid (∀v,Below W1.heap.size W1 v->v.cell? ⟨g,0,none⟩=some (.slice ok MK.length ck)):=Lh fun v hv=>by rw[(hM1.later hv hM1.lt).cell];rfl
 have HC1:Hid (∀v,Below W1.heap.size W1 v->v.cell? ⟨g,1,none⟩=some (.int .i64 N)):=Lh fun v hv=>by rw[(hM1.later hv hM1.lt).cell];rfl
 have HC2:Hid (∀v,Below W1.heap.size W1 v->v.cell? ⟨g,2,none⟩=some (.slice oF F.length cF)):=Lh fun v hv=>by rw[(hM1.later hv hM1.lt).cell];rfl
 have HRG:Hid (∀v,Below W1.heap.size W1 v->v.rangeAt g 3 (pmL p)):=Lh fun v hv=>(hM1.later hv hM1.lt).range 3 (pmL p) fun j u hu=>by
  unfold aBP;rw[List.getElem?_append_right qS];simpa using hu
 have HPL:Hid ((pmL p).toArray=PA):=Lh (by rw[<-hPA];rfl);have HPC:Hid ((Tryz.prog.info? 24).map (·.size)=some (pmL p).length):=Lh aM;have HAL:=Lh (Cl A W1 hV1 hE1);obtain⟨SB,hSB⟩:=qM (Da.bj MK N F p);have HSE:Hid (∀v,Below W1.heap.size W1 v->MK.length<=100->F.length<=100->Calls Tryz.prog 19 #[.slice ok MK.length ck,.int .i64 N,.slice oF F.length cF,.agg PA] v fun e w'=>∃x u R FD,e=.returned (.tuple #[.agg (jJ x R FD).toArray,u])/\R.length=32/\FD.length=32/\(SB=0->FD=Da.sha F)/\RbF v.heap.size (if SB=0 then Da.dx MK N F p else[]) x w'/\SeV A p SB w' u/\Below v.heap.size v w'):=Lh fun v hv h1 h2=>by
  have:=tI A v ok ck MK N oF cF F p (hK1.later hv) (hF1.later hv) h1 qO hN hok (hV1.later hv) (hE1.later hv).e;rw[hPA,hSB]at this;refine this.mono ?_;rintro e w' ⟨x,u,rfl,hx,hu,hb⟩;refine⟨x,u,_,_,rfl,?_,?_,fun h=>if_pos h,hx,hu,hb⟩
  ·split
   ·exact Da.gE _
   ·rfl
  ·split
   ·exact Da.ai _
   ·rfl
 have HPN:Hid (∀v,Below W1.heap.size W1 v->Calls Tryz.prog 20 #[.agg PA] v fun e w'=>∃u,e=.returned (.tuple #[.int .i64 (if Da.aU p=0 then(Da.ae p.sz:Int)else 0),u])/\WrV A p w' u/\Below v.heap.size v w'):=Lh fun v hv=>by
  rw[<-hPA];exact jL A v p hok (hE1.later hv).e.e15
 have HSH:Hid (∀v,F.length<=100->Calls Tryz.prog 21 #[.int .i64 (F.length:Int)] v fun e w'=>∃o c,e=.returned (.tuple #[.slice o 1 c,.int .i64 0])/\Below v.heap.size v w'):=Lh fun v hl=>by
  refine(gG F.length v qO).mono ?_;rintro e w' ⟨x,rfl,⟨o,c,rfl,_⟩,hb⟩;exact⟨o,c,by rw[aBJ F.length qO];rfl,hb⟩
 have HPLC:Hid (∀v,Below W1.heap.size W1 v->MK.length<=100->SB=0->∀i:Nat,i<Da.ae p.sz->Calls Tryz.prog 22 #[.slice ok MK.length ck,.int .i64 N,.agg PA,.int .i64 (i:Int)] v fun e w'=>e=.returned (.tuple #[.int .i64 ((Da.ez MK N p i:Nat):Int),.nilIface])/\Below v.heap.size v w'):=Lh fun v hv h1 h0 i hi=>by
  obtain⟨hb,_,ha⟩:=Da.aBF (hSB.trans h0);have hn:=Da.iy (Da.cN hb);have hp:Da.dE MK N p (i:Int)=0:=by
   unfold Da.dE;rw[if_pos ha];unfold Da.iQ;rw[Da.td.2 ⟨qO,by unfold Da.n16;omega⟩];rfl
  have h3:Da.a6 p 0=0:=by unfold Da.a6;rw[if_pos hb]
  have:=zu A v ok ck MK N p (i:Int) (hK1.later hv) h1 hN (by unfold bG;unfold Da.n16 at hn;omega) hok (hV1.later hv) (hE1.later hv).e;rw[hPA,hp,if_pos h3]at this;refine this.mono ?_;rintro e w' ⟨u,rfl,hu,hbx⟩;exact⟨by rw[aBG hu hb];rfl,hbx⟩
 have HTG:Hid (∀v,Below W1.heap.size W1 v->MK.length<=100->SB=0->∀(q:Nat)(oB:Option Addr)(cB:Nat)(B:BL),q<512->RowIs v oB (bytesV B) cB->B.length=8->Calls Tryz.prog 23 #[.slice ok MK.length ck,.int .i64 N,.int .i64 (q:Int),.slice oB 8 cB] v fun e w'=>∃o c t,e=.returned (.tuple #[.slice o 16 c,.nilIface])/\t.length=16/\RowIs w' o (bytesV t) c/\Below v.heap.size v w'):=Lh fun v hv h1 h0 q oB cB B hq hB h8=>by
  obtain⟨hb,_,ha⟩:=Da.aBF (hSB.trans h0);have ht:Da.kD MK N (q:Int) B.length=0:=by
   unfold Da.kD;rw[if_pos ha,if_pos ⟨qO,qO⟩,if_pos h8]
  have:=FC A v ok ck MK N (q:Int) oB cB B (hK1.later hv) hB h1 qO hN (by unfold bG;omega) (hV1.later hv) (hE1.later hv).e;rw[ht,if_pos rfl,h8]at this;refine this.mono ?_;rintro e w' ⟨x,rfl,⟨o,c,rfl,hr⟩,hbx⟩;have hl:(Da.dZ (Da.aQ MK N 3) (q:Int) B).length=16:=by rw[Da.oJ,h8]
  exact⟨o,c,_,by rw[hl];rfl,hl,hr,hbx⟩
 have HOP:Hid (∀v,Below W1.heap.size W1 v->MK.length<=100->F.length<=100->SB=0->∀(oS:Option Addr)(cS:Nat)(S:L8)(s:Nat->Bool)(L k m:Nat),Po17 MK N F p S s L k->L<=32->S.length=m->RbIs v oS S cS->Calls Tryz.prog 11 #[.slice ok MK.length ck,.int .i64 N,.agg PA,.slice oS m cS] v fun e w'=>∃ox cx y oe le ce ol ll cl,e=.returned (.tuple #[.slice ox F.length cx,.agg #[.int .i64 y,.slice oe le ce,.slice ol ll cl],.nilIface])/\RowIs w' ox (bytesV F) cx/\(∀v',Below w'.heap.size w' v'->Calls Tryz.prog 24 #[.agg #[.int .i64 y,.slice oe le ce,.slice ol ll cl]] v' fun e w2=>e=.returned (.bool true)/\Below v'.heap.size v' w2)/\Below v.heap.size v w'):=Lh fun v hv h1 h2 h0 oS cS S s L k m hpo hL hm hS=>by
  obtain⟨hb,hsz,ha⟩:=Da.aBF (hSB.trans h0);have hR:=Da.cN hb;have hfw:=hpo.few hR qO;have hob:Da.a6 p (Da.fS MK N p (Da.n16 p))=0:=by
   unfold Da.a6 Da.fS;rw[if_pos hb,if_pos ha,if_pos rfl]
  subst hm;have:=wZ A v ok ck MK N p oS cS S (hK1.later hv) hS h1 hfw hN hok (hV1.later hv) (hE1.later hv);rw[hPA]at this;refine this.mono ?_;rintro e w' ⟨R,F',y,E,C,x1,x2,x3,u,hop,rfl,hx1,hx2,hx3,hu,hbx⟩;obtain⟨rfl,rfl,hen,iE,iC⟩:=hpo.back hR hsz qO hL hob hop;obtain⟨ox,cx,rfl,hrx⟩:=hx1;obtain⟨oe,ce,rfl,hre⟩:=hx2;obtain⟨ol,cl,rfl,hrl⟩:=hx3;refine⟨ox,cx,_,oe,_,ce,ol,_,cl,by rw[aBG hu hb],hrx,fun v' hv'=>?_,hbx⟩;have:=AA v' (y:Int) oe ol ce cl E C (hre.later hv') (hrl.later hv') iE iC;rw[hen]at this;exact this
 have HRE:Hid (∀v,Below W1.heap.size W1 v->MK.length<=100->F.length<=100->SB=0->∀(oS:Option Addr)(cS:Nat)(S:L8)(s:Nat->Bool)(L k m:Nat),Po17 MK N F p S s L k->L<=32->S.length=m->RbIs v oS S cS->Calls Tryz.prog 12 #[.slice ok MK.length ck,.int .i64 N,.agg PA,.slice oS m cS,.agg (bytesV (Da.sha F)).toArray] v fun e w'=>∃ox cx,e=.returned (.tuple #[.slice ox F.length cx,.nilIface])/\RowIs w' ox (bytesV F) cx/\Below v.heap.size v w'):=Lh fun v hv h1 h2 h0 oS cS S s L k m hpo hL hm hS=>by
  obtain⟨hb,hsz,ha⟩:=Da.aBF (hSB.trans h0);have hR:=Da.cN hb;have hfw:=hpo.few hR qO;have hob:Da.a6 p (Da.fS MK N p (Da.n16 p))=0:=by
   unfold Da.a6 Da.fS;rw[if_pos hb,if_pos ha,if_pos rfl]
  have h3:Da.a6 p 0=0:=by unfold Da.a6;rw[if_pos hb]
  subst hm;have:=xF A v ok ck MK N p oS cS S (Da.sha F) (Da.ai F) (hK1.later hv) hS h1 hfw hN hok (hV1.later hv) (hE1.later hv) ((hv.cell (de hc41)).trans hc41);rw[hPA]at this;refine this.mono ?_;rintro e w' ⟨Q,G,x,u,hrs,rfl,hx,hu,hbx⟩;obtain⟨R,F',y,E,C,hop,h4⟩:=hrs;obtain⟨rfl,rfl,_⟩:=hpo.back hR hsz qO hL hob hop;have hQ:Q=0/\G=F':=by
   rcases h4 with ⟨h4,_⟩|⟨_,h4,_⟩|⟨_,_,h4,h5⟩
   ·exact absurd h3 h4
   ·exact absurd rfl h4
   ·exact⟨h4,h5⟩
  obtain⟨rfl,rfl⟩:=hQ;obtain⟨ox,cx,rfl,hrx⟩:=hx;exact⟨ox,cx,by rw[aBG hu hb],hrx,hbx⟩
 have HZS:=Lh hZS;have HZR:=Lh hZR;have HRS:Hid ((Tryz.prog.info? 39).map (·.size)=some 3/\ZR.size=3):=Lh ⟨kE,by rw[<-hZR];rfl⟩;have HSB:=Lh hSB;have HZ:=Lh hZ1;have HF:=Lh hF1;have HB1:=Lh hb1;have HG:=Lh hg;have HW1:=Lh hW1;obtain⟨M,hM⟩:=qM zs.length;obtain⟨lm,hlm⟩:=qM MK.length;obtain⟨lf,hlf⟩:=qM F.length;have HM:=Lh hM;have HLF:=Lh hlf;have hz1:=hZ1.le;have hz2:=hZ1.cap;have hk1:=hK1.le;have hk2:=hK1.cap;have hf1:=hF1.le;have hf2:=hF1.cap;rw[bytesV_length,hlm]at hk1;rw[bytesV_length,hlf]at hf1;rw[hM]at hz1;unfold maxLen at hz2 hk2 hf2;rw[hMA,hM];rw[hlm]at HC0 HSE HPLC HTG HOP HRE;rw[hlf]at HC2 HSE HSH HOP HRE;have hnn:=dO;have hnq:=JD;clear hg hMA hW1 hb1 hM1 hK hF hZ hN hok hV hE hc4 hK1 hF1 hZ1 hV1 hE1 hc41 hPA hSB hZS hZR hM hlm hlf;go_enter Tryz.func4,Tryz.ntmps4
 go_upto_region 1 with fail
 rw[HW1.out,HG.out];go_wp2_with fail;refine HAL.out.mono ?_;rintro e W2 ⟨rfl,hb2⟩;have HB2:=Lh hb2;have hc0:=HC0.out W2 hb2;have hc2:=HC2.out W2 hb2;clear hb2 HAL;by_cases hbig:100<lm∨100<lf∨60<M
 ·have d1:decide ((lm:Int)>100)=decide (100<lm):=by congr 1;exact propext qO
  have d2:decide ((lf:Int)>100)=decide (100<lf):=by congr 1;exact propext qO
  have d3:decide ((M:Int)>60)=decide (60<M):=by congr 1;exact propext qO
  by_cases e1:100<lm
  ·go_wp2_with fail;go_ret;exact⟨rfl,Ks HB1.out HB2.out⟩
  ·by_cases e2:100<lf
   ·go_wp2_with fail;go_ret;exact⟨rfl,Ks HB1.out HB2.out⟩
   ·have e3:60<M:=qO;go_wp2_with fail;go_ret;exact⟨rfl,Ks HB1.out HB2.out⟩
 have hlm:lm<=100:=qO;have hlf:lf<=100:=qO;have hM6:M<=60:=qO;go_upto_region 5 with fail
 clear hc0 hc2;have hc0:=HC0.out W2 HB2.out;have hc1:=HC1.out W2 HB2.out;have hc2:=HC2.out W2 HB2.out;apply wp_region_lit;iterate 7 (refine qP ?_)
 refine wpList_load_mid rfl 24 (.tmp 51) rfl g 3 rfl (pmL p) _ (HRG.out W2 HB2.out) Tryz.underlying24 rfl HPC.out ?_;rw[HPL.out];refine wpList_plain rfl (fun K hK=>?_);go_simp;refine(HSE.out W2 HB2.out hlm hlf).mono ?_;rintro e W3 ⟨x,u,R,FD,rfl,hR,hFD,hsha,hx,hu,hb3⟩;refine hK _ _ ?_;clear hK K HSE hc0 hc1 hc2;obtain⟨SA,hSA⟩:=qM ((jJ x R FD).toArray);have hx1:x.oneCell'=true:=by obtain⟨o,c,xs,rfl,_⟩:=hx;rfl
 have HFS:Hid ((Tryz.prog.info? 57).map (·.size)=some SA.size):=Lh (by rw[rW,<-hSA];simp[ip,hR,hFD]);have HFZ:Hid (ZS.size=SA.size):=Lh (by rw[<-HZS.out,<-hSA];simp[ip,hR,hFD,Da.gJ]);have HFO:Hid (SA.all (·.oneCell')=true):=Lh (by rw[<-hSA];exact uB x hx1 R FD);obtain⟨gs,hgs⟩:=qM W3.heap.size;obtain⟨W4,hW4⟩:=qM (W3.alloc (.cells ZS 57));have hz4:W4.heap[gs]? =some (.cells ZS 57 (0,0)):=by rw[<-hW4,<-hgs];exact World.alloc_heap_new W3 _
 obtain⟨W5,hW5⟩:=qM (W4.setRow gs SA);have hA5:Arr W5 gs 57 (jJ x R FD):=by rw[<-hW5];unfold Arr;rw[hSA];exact setRow_heap _ _ _ _ _ _ hz4
 have hb35:Below W3.heap.size W3 W5:=by rw[<-hW5,<-hW4];exact(aH _ _).trans (aA (Nat.le_of_eq hgs))
 have HB3:=Lh (Ks HB2.out hb3);have HB5:=Lh (Ks (Ks HB2.out hb3) hb35);have HB35:=Lh hb35;have HX:=Lh hx;have HU5:=Lh (hu.later hb35);have HA5:=Lh hA5;have HR:=Lh hR;have HSHA:=Lh hsha;have HZ4:=Lh hz4;have HW4:=Lh hW4;have HW5:=Lh hW5;have HGS:=Lh hgs;rw[hSA];clear hSA hx1 hgs hW4 hz4 hW5 hA5 hb35 hb3 hx hu hR hFD hsha;iterate 4 (refine qP ?_)
 rw[HW4.out,HGS.out];refine wpList_store_rowTo rfl 57 (.tmp 5) (.tmp 54) rfl rfl gs SA rfl rfl 57 ZS HZ4.out HFS.out HFZ.out HFO.out ?_;rw[HW5.out];refine qP ?_;clear HZ4 HW4 HW5 HFS HFZ HFO;have hcs:W5.cell? ⟨gs,0,none⟩=some x:=by rw[HA5.out.cell];rfl
 by_cases h0:SB≠0
 ·have hb:=HSB.out;obtain⟨hn1,hn2⟩:TI u:=by
   refine wY HU5.out (fun h3=>h0 ?_);exact(Da.iq h3).2
  obtain⟨ox,cx,xs,rfl,hxx⟩:=HX.out;rw[if_neg h0]at hcs;clear hb;go_wp2_with fail;go_ret;exact⟨rfl,Ks HB1.out HB5.out⟩
 have h0:SB=0:=qO;subst h0;obtain⟨hb15,hsz,hab⟩:=Da.aBF HSB.out;have hR15:=Da.cN hb15;have hn90:=Da.Ed hR15 (by have:=HLF.out;omega);obtain⟨T,hT⟩:=qM (Da.ae p.sz);obtain⟨m,hm⟩:=qM (Da.n16 p);have hT33:33<=T:=by
  rw[<-hT];unfold Da.ae gi;have:=fE p.sz.toNat;have:=GC (nbk p.sz.toNat);omega
 have hTm:T<=m:=by rw[<-hm,<-hT];unfold Da.n16;omega
 rw[hm]at hn90;obtain rfl:u=.nilIface:=aBG HU5.out hb15;obtain⟨ox,cS,xs,rfl,hrx,hex,hlo,_,harr⟩:=HX.out;rw[if_pos rfl]at hex hcs harr;rw[Da.fe,hm]at hcs;obtain⟨gO,rfl,hAO⟩:=harr (by rw[Da.fe,hm];omega);have hgO:W2.heap.size<=gO:=hlo _ rfl;have hcS:=hrx.cap;have hmS:=hrx.le;rw[hex.len,Da.fe,hm]at hmS;have hgO3:gO<W3.heap.size:=hAO.lt;have hgOs:gO≠gs:=by have:=HGS.out;omega
 have HAO5:=Lh (hAO.later HB35.out hAO.lt);have HEX5:=Lh (hex.later HB35.out);have HSZ:=Lh hsz;have HB15:=Lh hb15;have HR15:=Lh hR15;have HTT:=Lh hT;have HMM:=Lh hm;have HGO:=Lh hgO;have HGO3:=Lh hgO3;have HGOS:=Lh hgOs;have HCS:=Lh hcS;clear hsz hb15 hR15 hT hm hgO hgO3 hgOs hcS hab hrx hex hlo harr hAO HX HU5;go_upto_region 8 with fail
 apply wp_region_lit;refine qP ?_;refine wpList_load_mid rfl 24 (.tmp 63) rfl g 3 rfl (pmL p) _ (HRG.out W5 HB5.out) Tryz.underlying24 rfl HPC.out ?_;rw[HPL.out];refine wpList_plain rfl (fun K hK=>?_);go_simp;refine(HPN.out W5 HB5.out).mono ?_;rintro e W6 ⟨u,rfl,hu,hb6⟩;refine hK _ _ ?_;clear hK K HPN;obtain rfl:u=.nilIface:=by
  rcases hu with ⟨_,h⟩|⟨h,_⟩
  ·exact h
  ·exact absurd HB15.out h
 rw[if_pos HB15.out,HTT.out];have hcs6:W6.cell? ⟨gs,0,none⟩=some (.slice (some ⟨gO,0,none⟩) m cS):=by rw[(HA5.out.later hb6 HA5.out.lt).cell,<-HMM.out,<-Da.fe MK N F p];rfl
 have HB6:=Lh (Ks HB5.out hb6);have HB56:=Lh hb6;clear hu hb6 hcs;iterate 5 (refine qP ?_)
 have e1:decide ((T:Int)<1)=false:=decide_eq_false qO;have e2:decide ((m:Int)<(T:Int))=false:=decide_eq_false qO;have hc2:=HC2.out W6 HB6.out;go_wp2_with fail;refine(HSH.out W6 hlf).mono ?_;rintro e W7 ⟨o8,c8,rfl,hb7⟩;clear e1 e2 hc2 hcs6 HSH;obtain⟨W8,hW8⟩:=qM (W7.alloc (.cells #[.int .i64 0] 3));obtain⟨W9,hW9⟩:=qM (W8.alloc (.cells (Array.replicate T (.bool false)) 4));have hb8:Below W7.heap.size W7 W8:=by rw[<-hW8];exact aH _ _
 have hb9:Below W8.heap.size W8 W9:=by rw[<-hW9];exact aH _ _
 have hb79:=Ks hb8 hb9;have hb57:=Ks HB56.out hb7;have hb59:=Ks hb57 hb79;have hb17:=Ks HB6.out hb7;obtain⟨gL,hgL⟩:=qM W7.heap.size;obtain⟨gS,hgS⟩:=qM W8.heap.size;have hmi:∀W:World,(Instr.makeSlice 37 (.int .i64 1) (.int .i64 1)).run Tryz.prog W=.ok (.slice (some ⟨W.heap.size,0,none⟩) 1 1) (W.alloc (.cells (Array.replicate 1 (.int .i64 0)) 3)):=fun W=>FX 1 qO W
 have hmk:=nr T qO;have HST:Hid (aBT MK N F p W1 W7 gO gS gL T M (.int .i64 0) W9):=Lh ⟨0,_,_,0,Nat.zero_le _,rfl,⟨Ks hb17 hb79,fun k hk _=>hb79.block k hk,hb79.size,Nat.le_trans HB2.out.size HGO.out,by
   have:=HGO3.out;have:=HB35.out.size;have:=hb57.size;omega,by rw[<-hgS];exact hb8.size,Nat.le_of_eq hgL,hb17.size,⟨xs,HAO5.out.later hb59 HAO5.out.lt,HEX5.out.later hb59⟩,by rw[<-hW9,<-hgS];exact vd W8 T,by
   have h:Arr W8 gL 3 [.int .i64 0]:=by rw[<-hW8,<-hgL];exact Arr.made W7 _ [.int .i64 0]
   exact h.later hb9 h.lt⟩,Po17.start MK N F p HR15.out HSZ.out⟩
 have hA7:=HA5.out.later hb57 HA5.out.lt;have HSA:Hid (∀wr S s L,Bm17 W1 W7 wr gO gS gL T S s L->Arr wr gs 57 (jJ (.slice (some ⟨gO,0,none⟩) (Da.dx MK N F p).length cS) R FD)):=Lh fun wr S s L h=>h.at_ hA7 HGOS.out.symm
 have HS0:Hid (∀wr S s L,Bm17 W1 W7 wr gO gS gL T S s L->wr.cell? ⟨gs,0,none⟩=some (.slice (some ⟨gO,0,none⟩) m cS)):=Lh fun wr S s L h=>by rw[(HSA.out wr S s L h).cell,<-HMM.out,<-Da.fe MK N F p];rfl
 have HW8:=Lh hW8;have HW9:=Lh hW9;have HGL:=Lh hgL;have HGS2:=Lh hgS;clear hb7 hb8 hb9 hb79 hb57 hb59 hb17 hW8 hW9 hgL hgS hA7 HAO5 HEX5 HA5 HB56 HB35 HB3 HB5 HB6 HGO HGO3 HGOS;go_wp2_with (first|rw[HW8.out]|rw[HW9.out])
 rw[HGL.out,HGS2.out];clear HW8 HW9 HGL HGS2 hmi hmk;go_loopw [13,14,15,16,17,18,19,20,21,95] (fun _ _ _ _ _ _ _ _ _ iv wr=>aBT MK N F p W1 W7 gO gS gL T M iv wr) (fun _ _ _ _ _ _ _ _ _ iv _=>M-(intOf iv).toNat)
 case atStart=>exact HST.out
 case round=>
  clear HST;rename World=>W2
  obtain⟨k,S,s,L,hk,rfl,hbm,hpo⟩:=hrel;by_cases hlt:k<M
  ·obtain⟨b,off,rfl,hblt,hcells⟩:=(HZ.out.later hbm.below).cells (by rw[HM.out];omega);have hh:=hcells k (by rw[HM.out];omega);obtain⟨z,hzq⟩:=qM (zs.getD k default);rw[hzq]at hh;obtain⟨q,gn,y⟩:=z;have hqa: -9223372036854775808<=q:=hh.lo;have hqb:q<=9223372036854775807:=hh.hi;have hc0:W2.cell? ⟨b,off+k*10,none⟩=some (.int .i64 q):=hh.c0;have hc1:W2.cell? ⟨b,off+k*10+1,none⟩=some (.bool gn):=hh.c1;obtain⟨y0,hy0⟩:=qM (co y 0);obtain⟨y1,hy1⟩:=qM (co y 1);obtain⟨y2,hy2⟩:=qM (co y 2);obtain⟨y3,hy3⟩:=qM (co y 3);obtain⟨y4,hy4⟩:=qM (co y 4);obtain⟨y5,hy5⟩:=qM (co y 5);obtain⟨y6,hy6⟩:=qM (co y 6);obtain⟨y7,hy7⟩:=qM (co y 7);have ha0:W2.cell? ⟨b,off+k*10+2,none⟩=some (.int .u8 (y0.toNat:Int)):=by rw[<-hy0];exact hh.c2 0 qO
   have ha1:W2.cell? ⟨b,off+k*10+3,none⟩=some (.int .u8 (y1.toNat:Int)):=by rw[<-hy1];exact hh.c2 1 qO
   have ha2:W2.cell? ⟨b,off+k*10+4,none⟩=some (.int .u8 (y2.toNat:Int)):=by rw[<-hy2];exact hh.c2 2 qO
   have ha3:W2.cell? ⟨b,off+k*10+5,none⟩=some (.int .u8 (y3.toNat:Int)):=by rw[<-hy3];exact hh.c2 3 qO
   have ha4:W2.cell? ⟨b,off+k*10+6,none⟩=some (.int .u8 (y4.toNat:Int)):=by rw[<-hy4];exact hh.c2 4 qO
   have ha5:W2.cell? ⟨b,off+k*10+7,none⟩=some (.int .u8 (y5.toNat:Int)):=by rw[<-hy5];exact hh.c2 5 qO
   have ha6:W2.cell? ⟨b,off+k*10+8,none⟩=some (.int .u8 (y6.toNat:Int)):=by rw[<-hy6];exact hh.c2 6 qO
   have ha7:W2.cell? ⟨b,off+k*10+9,none⟩=some (.int .u8 (y7.toNat:Int)):=by rw[<-hy7];exact hh.c2 7 qO
   obtain⟨u,hu⟩:=qM ((q % 18446744073709551616).toNat);have hwu:IntKind.u64.wrap q=(u:Int):=by rw[sT,hu]
   have hwn:IntKind.u64.wrap (T:Int)=(T:Int):=by rw[sT];omega
   obtain⟨i,hi⟩:=qM (u % T);have hil:i<T:=by rw[<-hi];exact Nat.mod_lt _ qO
   have htm:Int.tmod (u:Int) (T:Int)=(i:Int):=by rw[<-hi];rfl
   have hwp:IntKind.u64.wrap (i:Int)=(i:Int):=by rw[sT];omega
   have hwp2:IntKind.i64.wrap (i:Int)=(i:Int):=by rw[IntKind.wrap_i64];omega
   have hk0:(0:Int)<=(k:Int):=qO;have hk1:(k:Int)<(M:Int):=qO;have hN00:¬(T:Int)=0:=qO;have hp0:(0:Int)<=(i:Int):=qO;have hp1':(i:Int)<(T:Int):=qO;obtain⟨hq,hhq⟩:=qM W2.heap.size;obtain⟨w6,hw6⟩:=qM (W2.alloc (.cells #[.int .i64 q,.bool gn,.int .u8 (y0.toNat:Int),.int .u8 (y1.toNat:Int),.int .u8 (y2.toNat:Int),.int .u8 (y3.toNat:Int),.int .u8 (y4.toNat:Int),.int .u8 (y5.toNat:Int),.int .u8 (y6.toNat:Int),.int .u8 (y7.toNat:Int)] 67));have hb6:Below W2.heap.size W2 w6:=by rw[<-hw6];exact aH _ _
   have hQ6:w6.heap[hq]? =some (.cells #[.int .i64 q,.bool gn,.int .u8 (y0.toNat:Int),.int .u8 (y1.toNat:Int),.int .u8 (y2.toNat:Int),.int .u8 (y3.toNat:Int),.int .u8 (y4.toNat:Int),.int .u8 (y5.toNat:Int),.int .u8 (y6.toNat:Int),.int .u8 (y7.toNat:Int)] 67 (0,0)):=by rw[<-hw6,<-hhq];exact World.alloc_heap_new _ _
   have hbm6:=hbm.later hb6;have hcq:w6.cell? ⟨hq,0,none⟩=some (.int .i64 q):=by rw[cell_of_row _ _ _ _ _ _ hQ6];rfl
   have HQ6:=Lh hQ6;have HBM6:=Lh hbm6;have HPO:=Lh hpo;have HW6:=Lh hw6;have HHQ:=Lh hhq;have HIL:=Lh hil;have HK:=Lh hlt;have hcs:=hbm6.seen.cell i hil;clear hcells hh hzq hbm hpo hb6 hQ6 hw6 hhq hu hi hil hy0 hy1 hy2 hy3 hy4 hy5 hy6 hy7 hblt hbm6;by_cases hs:s i=true
   ·rw[hs]at hcs;clear hs;go_wp2_with (rw[HW6.out,HHQ.out])
    go_roundw
    case rel=>exact⟨k+1,S,s,L,by have:=HK.out;omega,by go_num,HBM6.out,HPO.out.later⟩
    case measure=>simp[intOf];have:=HK.out;omega
   ·have hs':s i=false:=by simpa using hs
    rw[hs']at hcs;have hst:=HBM6.out.seen.store i true;have hbm7:=HBM6.out.see i;have hfs:=HBM6.out.seen.frozen i;obtain⟨w7,hw7⟩:=qM (w6.setCell ⟨gS,i,none⟩ (.bool true));rw[hw7]at hbm7 hst;have hQ7:=cM hst.2 (show w6.heap[gS]? =some (.cells _ _ _) from HBM6.out.seen) HQ6.out qD;have HBM7:=Lh hbm7;have HQ7:=Lh hQ7;have HNS:=Lh hs';have HW7:=Lh hw7;clear hst hbm7 hQ7 hw7 hs hs';go_wp2_with (first|rw[HW6.out,HHQ.out]|rw[HW7.out])
    clear hcs hfs HW6 HHQ HW7 HBM6 HQ6;go_loopw [15,16] (fun gv av wr=>gv=.int .i64 0/\av=.int .i64 (i:Int)/\w7=wr) (fun _ _ _=>0)
    case atStart=>exact⟨rfl,rfl,rfl⟩
    case round=>
     obtain⟨rfl,rfl,rfl⟩:=hrel;go_upto_region 24 with fail
     have hc0:=HC0.out w7 HBM7.out.below;have hc1:=HC1.out w7 HBM7.out.below;apply wp_region_lit;iterate 5 (refine qP ?_)
     refine wpList_load_mid rfl 24 (.tmp 142) rfl g 3 rfl (pmL p) _ (HRG.out w7 HBM7.out.below) Tryz.underlying24 rfl HPC.out ?_;rw[HPL.out];refine qP ?_;refine wpList_plain rfl (fun K hK=>?_);go_simp;refine(HPLC.out w7 HBM7.out.below hlm (by trivial) i (by rw[HTT.out];exact HIL.out)).mono ?_;rintro e w8 ⟨rfl,hb8⟩;refine hK _ _ ?_;clear hK K hc0 hc1;obtain⟨qq,hqq⟩:=qM (Da.ez MK N p i);have hqm:qq<m:=by
      rw[<-hqq,<-HMM.out];exact Da.pK (by rw[HMM.out];omega) (by rw[HMM.out];have:=HIL.out;omega)
     have hbm8:=HBM7.out.later hb8;have hQ8:=(hb8.block hq (aE.1 HQ7.out).1).trans HQ7.out;have h16:(bi S qq).length=16:=by
      rw[<-hqq,HPO.out.same i (by rw[HTT.out];exact HIL.out) HNS.out,hqq];exact Da.lA MK N F p (by rw[HMM.out];omega) qq (by rw[HMM.out];exact hqm)
     obtain⟨o6,c6,hh6,hr6,hf6⟩:=hbm8.hdr qq (by rw[HPO.out.slen,HMM.out];exact hqm);rw[h16]at hh6;obtain⟨b6,off6,rfl,hl6,hcell6⟩:=hr6.cells (by rw[bytesV_length,h16];omega);have hc6:=hr6.cap;have hc61:=hr6.le;rw[bytesV_length,h16]at hc61;unfold maxLen at hc6;have hs0:=HS0.out w8 S _ _ hbm8;have hcg:w8.cell? ⟨hq,1,none⟩=some (.bool gn):=by rw[cell_of_row _ _ _ _ _ _ hQ8];rfl
     have hcy:w8.cell? ⟨hq,2,none⟩=some (.int .u8 (y0.toNat:Int)):=by rw[cell_of_row _ _ _ _ _ _ hQ8];rfl
     rw[hqq];have HBM8:=Lh hbm8;have HQ8:=Lh hQ8;have H16:=Lh h16;have HR6:=Lh hr6;have HQQ:=Lh hqq;have hcm:=HCS.out;unfold maxLen at hcm;have hq0:(0:Int)<=(qq:Int):=qO;have hq1:(qq:Int)<(m:Int):=qO;have d1:decide ((qq:Int)<0)=false:=decide_eq_false qO;have d2:decide ((m:Int)<=(qq:Int))=false:=decide_eq_false qO;clear hb8 hbm8 hQ8 h16 hr6 hqq hl6 hcell6 HBM7 HQ7;iterate 5 (refine qP ?_)
     by_cases hgn:gn=true
     ·subst hgn;obtain⟨n8,hn8⟩:=qM (8+y0.toNat % 8);have htm8:Int.tmod (y0.toNat:Int) 8=((y0.toNat % 8:Nat):Int):=rfl;obtain⟨r8,hr8⟩:=qM (y0.toNat % 8);rw[hr8]at htm8 hn8;have hr8b:r8<8:=by rw[<-hr8];exact Nat.mod_lt _ qO
      have hw1:IntKind.u8.wrap (r8:Int)=(r8:Int):=by rw[IntKind.wrap_u8];omega
      have hw2:IntKind.i64.wrap (r8:Int)=(r8:Int):=by rw[IntKind.wrap_i64];omega
      have hw3:IntKind.i64.wrap (8+(r8:Int))=(n8:Int):=by rw[IntKind.wrap_i64];omega
      have hn0:(0:Int)<=(n8:Int):=qO;have hn1:n8<=c6:=qO;have hn2:¬c6<n8:=qO;have hv:RowV ((bi S qq).take n8) (.slice (some ⟨b6,off6,none⟩) n8 c6) w8:=⟨_,c6,by rw[List.length_take,H16.out,Nat.min_eq_left qO],HR6.out.take n8⟩;have hbm9:=(HBM8.out.put qq hv).later (show Below _ _ (World.drew _) from qB.drew);have hpo9:=HPO.out.kill HR15.out (i:=i) (by rw[HTT.out];exact HIL.out) ((bi S qq).take n8) (by rw[List.length_take,H16.out];omega);rw[HQQ.out]at hpo9;have hL1:L<=1000:=by have:=HPO.out.bd;have:=HK.out;omega
      obtain⟨w9,hw9⟩:=qM ((w8.setCell ⟨gO,qq,none⟩ (.slice (some ⟨b6,off6,none⟩) n8 c6)).drew);rw[hw9]at hbm9;have hcL:w9.cell? ⟨gL,0,none⟩=some (.int .i64 (L:Int)):=by rw[hbm9.load.cell];rfl
      have hfL:=hbm9.load.frozen 0;have hbm10:=hbm9.add (L+1);rw[show((L+1:Nat):Int)=(L:Int)+1 by omega]at hbm10;obtain⟨w10,hw10⟩:=qM (w9.setCell ⟨gL,0,none⟩ (.int .i64 ((L:Int)+1)));rw[hw10]at hbm10;have hs0':World.cell? {w8 with drawn:=w8.drawn+1} ⟨gs,0,none⟩=_:=hs0;have hh6':World.cell? {w8 with drawn:=w8.drawn+1} ⟨gO,qq,none⟩=_:=hh6;have hcy':World.cell? {w8 with drawn:=w8.drawn+1} ⟨hq,2,none⟩=_:=hcy;have hf6':World.frozen? w8.drew ⟨gO,qq,none⟩=_:=hf6;have hh6'':World.cell? w8.drew ⟨gO,qq,none⟩=_:=hh6;have HW9:=Lh hw9;have HW10:=Lh hw10;have HBM10:=Lh hbm10;have HPO9:=Lh hpo9;clear hv hbm9 hpo9 hw9 hbm10 hw10 hr8 hr8b;go_wp2_with fail;go_still_tail 16,qK
      repeat still_step
      change wpList _ _ _ _ _ (World.drew _);go_wp2_with (first|rw[HW9.out]|rw[HW10.out])
      go_roundw
      case rel=>exact⟨k+1,_,_,_,by have:=HK.out;omega,by go_num,HBM10.out,HPO9.out⟩
      case measure=>simp[intOf];have:=HK.out;omega
     ·have hgn':gn=false:=by simpa using hgn
      subst hgn';clear hgn hcy;obtain⟨w9,hw9⟩:=qM (w8.alloc (.cells #[] 5));have hb9:Below w8.heap.size w8 w9:=by rw[<-hw9];exact aY _ _
      have HO9:Hid (w9.ownsRow w8.heap.size 5 1 (.slice (some ⟨w8.heap.size,0,none⟩) 0 0) 0 (bytesV [])):=Lh (by rw[<-hw9];exact World.ownsRow_lit w8 #[] 0 qN (Nat.zero_le _) rfl);obtain⟨y,hy⟩:=qM ((bi S qq).take 8);have hy8:y.length=8:=by rw[<-hy,List.length_take,H16.out];rfl
      have hr9:RowIs w9 (some ⟨b6,off6,none⟩) (bytesV y) c6:=by rw[<-hy];exact(HR6.out.later hb9).take 8
      have hs9:w9.cell? ⟨gs,0,none⟩=some (.slice (some ⟨gO,0,none⟩) m cS):=HS0.out w9 S _ _ (HBM8.out.later hb9);have hh9:w9.cell? ⟨gO,qq,none⟩=some (.slice (some ⟨b6,off6,none⟩) 16 c6):=(hb9.cell (de hh6)).trans hh6;have hn2:¬c6<8:=qO;have hn3:8<=c6:=qO;have HR9:=Lh hr9;have HB9:=Lh hb9;have HW9:=Lh hw9;have HY8:=Lh hy8;clear hb9 hw9 hy hy8 hr9;go_wp2_with (first|rw[HW9.out]|(at_builtin;refine aL rfl (.tmp 194) (.tmp 200) rfl w8.heap.size _ 0 [] rfl HO9.out (some ⟨b6,off6,none⟩) 8 c6 y rfl HY8.out.symm HR9.out qO HB9.out.size ?_))
      intro v10 w10 hv10 hg10;obtain⟨gB,cB,rfl,hgB,hbu⟩:=fG hv10 qO HY8.out.symm;have hb10:=own_below (n:=0) HB9.out HO9.out hg10;have HST3:Hid (aBW gB cB w8 (.int .i64 ((0:Nat):Int)) w10):=Lh ⟨0,y,Nat.zero_le _,rfl,HY8.out,hbu,hb10⟩;have HGB:=Lh hgB;rw[HY8.out];clear hv10 hg10 hbu hb10 hgB HO9 HW9 HB9 HR9 hs9 hh9 hn2 hn3 hs0 hh6 hf6 hc6 hc61;go_wp2_with fail;go_loopw [20,204] (fun _ jv wr=>aBW gB cB w8 jv wr) (fun _ jv _=>8-(intOf jv).toNat)
      case atStart=>exact HST3.out
      case round=>
       clear HST3;rename World=>W11
       obtain⟨j,r,hj,rfl,hr8,hbu,hb11⟩:=hrel;have hQ11:=(hb11.block hq (aE.1 HQ8.out).1).trans HQ8.out;by_cases hj8:j<8
       ·have hcb:=hbu.cell j (by rw[hr8];exact hj8);have hfb:=hbu.frozen j;obtain⟨x,hcx⟩:=Pj hQ11 hj8;obtain⟨rj,hrj⟩:=qM (co r j);rw[hrj]at hcb;have hst:=hbu.store j (rj^^^x);have hxr:=UInt8.toNat_lt x;have hrr:=UInt8.toNat_lt rj;have hbx:bits .xor .u8 (rj.toNat:Int) (x.toNat:Int)=((rj^^^x).toNat:Int):=by rw[u8_xor_nat _ _ hrr hxr,UInt8.toNat_xor]
        obtain⟨t,ht⟩:=qM (rj^^^x);rw[ht]at hbx hst;have hj0:(0:Int)<=(j:Int):=qO;have hj1:(j:Int)<8:=qO;have hcb':World.cell? {W11 with drawn:=W11.drawn+1} ⟨gB,j,none⟩=_:=hcb;have hcx':World.cell? {W11 with drawn:=W11.drawn+1} ⟨hq,2+j,none⟩=_:=hcx;have hfb':World.frozen? W11.drew ⟨gB,j,none⟩=_:=hfb;have hcb'':World.cell? W11.drew ⟨gB,j,none⟩=_:=hcb;have HB12:=Lh (hb11.trans (Only.below hst.2 HGB.out hb11.size));have HST:=Lh hst.1;have HR8:=Lh hr8;clear hst ht hQ11 hbu hb11 hr8 hrj;go_wp2_with fail;go_still_tail 12,qK
        repeat still_step
        change wpList _ _ _ _ _ (World.drew _);go_wp2_with fail;have hst:=HST.out;have hb12:=HB12.out;obtain⟨w12,hw12⟩:=qM (W11.setCell ⟨gB,j,none⟩ (.int .u8 (t.toNat:Int)));rw[hw12]at hst hb12⊢;have hdw:Below w12.heap.size w12 w12.drew:=qB.drew;exact⟨⟨j+1,r.set j t,qO,by go_num,by rw[List.length_set];exact HR8.out,hst.later hdw,hb12.drew⟩,by simp[intOf];omega⟩
       ·have hj9:(j:Int)=8:=qO;have hdj:decide ((j:Int)<8)=false:=decide_eq_false qO;have hbm11:=HBM8.out.later hb11;have hc0:=HC0.out W11 hbm11.below;have hc1:=HC1.out W11 hbm11.below;have HBM11:=Lh hbm11;have HBU:=Lh hbu;have HR8:=Lh hr8;clear hbm11 hbu hr8 hQ11 hb11 HQ8;go_wp2_with fail;refine(HTG.out W11 HBM11.out.below hlm (by trivial) qq (some ⟨gB,0,none⟩) cB r qO (by have:=HBU.out.row;exact this) HR8.out).mono ?_;rintro e W12 ⟨o12,c12,t,rfl,ht,hr12,hb12⟩;have hbm12:=HBM11.out.later hb12;have hs12:=HS0.out W12 S _ _ hbm12;obtain⟨o13,c13,hh12,_,hf12⟩:=hbm12.hdr qq (by rw[HPO.out.slen,HMM.out];exact hqm);rw[H16.out]at hh12;have hv12:RowV t (.slice o12 16 c12) W12:=⟨o12,c12,by rw[ht],hr12⟩;have hbm13:=hbm12.put qq hv12;have hpo13:=HPO.out.chg HR15.out (i:=i) (by rw[HTT.out];exact HIL.out) t qO;rw[HQQ.out]at hpo13;have hL1:L<=1000:=by have:=HPO.out.bd;have:=HK.out;omega
        obtain⟨w13,hw13⟩:=qM (W12.setCell ⟨gO,qq,none⟩ (.slice o12 16 c12));rw[hw13]at hbm13;have hcL:w13.cell? ⟨gL,0,none⟩=some (.int .i64 (L:Int)):=by rw[hbm13.load.cell];rfl
        have hfL:=hbm13.load.frozen 0;have hbm14:=hbm13.add (L+2);rw[show((L+2:Nat):Int)=(L:Int)+2 by omega]at hbm14;obtain⟨w14,hw14⟩:=qM (w13.setCell ⟨gL,0,none⟩ (.int .i64 ((L:Int)+2)));rw[hw14]at hbm14;have HW13:=Lh hw13;have HW14:=Lh hw14;have HBM14:=Lh hbm14;have HPO14:=Lh hpo13;clear hb12 hbm12 hv12 hbm13 hpo13 hw13 hbm14 hw14 ht hr12 hc0 hc1 HBM11 HBU HR8;go_wp2_with (first|rw[HW13.out]|rw[HW14.out])
        go_roundw
        case rel=>exact⟨k+1,_,_,_,by have:=HK.out;omega,by go_num,HBM14.out,HPO14.out⟩
        case measure=>simp[intOf];have:=HK.out;omega
  ·have hkM:(k:Int)=(M:Int):=qO;have hdk:decide ((k:Int)<(M:Int))=false:=decide_eq_false qO;have hcL:W2.cell? ⟨gL,0,none⟩=some (.int .i64 (L:Int)):=by rw[hbm.load.cell];rfl
   have HBM:=Lh hbm;have HPO:=Lh hpo;have HKM:=Lh hkM;clear hbm hpo hkM HPLC HTG HZ;go_wp2_with fail;go_loopw [23,246] (fun _ jv wr=>∃n:Nat,jv=.int .i64 (n:Int)/\(n=0∨n=1/\L<=32)/\W2=wr) (fun _ jv _=>1-(intOf jv).toNat)
   case atStart=>exact⟨0,rfl,.inl rfl,rfl⟩
   case round=>
    obtain⟨n,rfl,hn,rfl⟩:=hrel;rcases hn with rfl|⟨rfl,hL32⟩
    ·by_cases hL:32<L
     ·have hd:decide ((L:Int)>32)=true:=decide_eq_true qO;go_wp2_with fail;go_ret;exact⟨rfl,Ks HB1.out HBM.out.below⟩
     ·have hd:decide ((L:Int)>32)=false:=decide_eq_false qO;go_wp2_with fail;exact⟨⟨1,by go_num,.inr (by first|exact⟨rfl,qO⟩|exact⟨trivial,qO⟩),by trivial⟩,by simp[intOf]⟩
    ·have HL32:=Lh hL32;clear hL32 hcL;go_upto_region 48 with fail
     have hc0:=HC0.out W2 HBM.out.below;have hc1:=HC1.out W2 HBM.out.below;have hs0:=HS0.out W2 S _ _ HBM.out;apply wp_region_lit;iterate 5 (refine qP ?_)
     refine wpList_load_mid rfl 24 (.tmp 258) rfl g 3 rfl (pmL p) _ (HRG.out W2 HBM.out.below) Tryz.underlying24 rfl HPC.out ?_;rw[HPL.out];iterate 2 (refine qP ?_)
     refine wpList_plain rfl (fun K hK=>?_);go_simp;refine(HOP.out W2 HBM.out.below hlm hlf (by trivial) (some ⟨gO,0,none⟩) cS S s L k m HPO.out HL32.out (by rw[HPO.out.slen,HMM.out]) (HBM.out.rb (by rw[HPO.out.slen,HMM.out];exact hmS) HCS.out)).mono ?_;rintro e W3 ⟨ox,cx,yy,oe,le,ce,ol,ll,cl,rfl,hrx,henough,hb3⟩;refine hK _ _ ?_;clear hK K HOP hc0 hc1 hs0;obtain⟨FA,hFA⟩:∃FA:Array Value,(#[.int .i64 yy,.slice oe le ce,.slice ol ll cl]:Array Value)=FA:=⟨_,rfl⟩;rw[hFA]at henough⊢;obtain⟨gr,hgr⟩:=qM W3.heap.size;obtain⟨W4,hW4⟩:=qM (W3.alloc (.cells ZR 39));have hz4:W4.heap[gr]? =some (.cells ZR 39 (0,0)):=by rw[<-hW4,<-hgr];exact World.alloc_heap_new W3 _
     obtain⟨W5,hW5⟩:=qM (W4.setRow gr FA);have hz5:W5.heap[gr]? =some (.cells FA 39 (0,0)):=by rw[<-hW5];exact setRow_heap _ _ _ _ _ _ hz4
     have hb35:Below W3.heap.size W3 W5:=by rw[<-hW5,<-hW4];exact(aH _ _).trans (aA (Nat.le_of_eq hgr))
     have hfs:(Tryz.prog.info? 39).map (·.size)=some FA.size:=by rw[HRS.out.1,<-hFA];rfl
     have hfz:ZR.size=FA.size:=by rw[HRS.out.2,<-hFA];rfl
     have hfo:FA.all (·.oneCell')=true:=by rw[<-hFA];exact Cf rfl rfl rfl
     iterate 5 (refine qP ?_)
     (try rw[hW4])
     (try rw[hgr])
     refine qP ?_;refine wpList_store_rowTo rfl 39 (.tmp 25) (.tmp 264) rfl rfl gr FA rfl rfl 39 ZR hz4 hfs hfz hfo ?_
     (try rw[hW5])
     refine qP ?_;have hbm5:=HBM.out.later (Ks hb3 hb35);have HBM5:=Lh hbm5;have k1:=fD (⟨ox,cx,by rw[HLF.out],hrx.later hb35⟩:RowV F (.slice ox lf cx) W5);have k2:=fD (⟨oF,cF,by rw[HLF.out],HF.out.later hbm5.below⟩:RowV F (.slice oF lf cF) W5);have k3:=str_neq17 ⟨F.toArray⟩;have hc2:=HC2.out W5 hbm5.below;have HEN:=Lh (henough W5 hb35);have HFS:=Lh hfs;have HZ5:=Lh hz5;clear hfz hfo hz4 hW4 hW5 hgr hz5 hfs hb35 hb3 hrx henough hFA hbm5;go_upto_region 49 with fail
     apply wp_region_lit;iterate 3 (refine qP ?_)
     iterate 6 (refine BigFrame.wpList_want (by rfl) (fun K hK=>?_);go_simp;refine hK _ _ ?_;clear hK K)
     iterate 2 (refine qP ?_)
     refine BigFrame.wpList_want (by rfl) (fun K hK=>wp_load_row 39 (.tmp 25) rfl gr rfl 39 FA (0,0) _ HZ5.out Tryz.underlying39 rfl HFS.out (hK _ _ ?_));refine BigFrame.wpList_want (by rfl) (fun K hK=>?_);go_simp;refine HEN.out.mono ?_;rintro e W6 ⟨rfl,hb6⟩;refine hK _ _ ?_;clear hK K HEN k1 k2 hc2;refine BigFrame.wpList_want (by rfl) (fun K hK=>?_);go_simp;refine hK _ _ ?_;clear hK K;refine qP ?_;have hbm6:=HBM5.out.later hb6;have HBM6:=Lh hbm6;clear hbm6 hb6 HZ5 HFS HBM5;go_upto_region 51 with fail
     have hc0:=HC0.out W6 HBM6.out.below;have hc1:=HC1.out W6 HBM6.out.below;have hs0:=HS0.out W6 S _ _ HBM6.out;have hfd:=aBV _ R FD HR.out (HSA.out W6 S _ _ HBM6.out);rw[HSHA.out (by trivial)]at hfd;apply wp_region_lit;iterate 5 (refine qP ?_)
     refine wpList_load_mid rfl 24 (.tmp 286) rfl g 3 rfl (pmL p) _ (HRG.out W6 HBM6.out.below) Tryz.underlying24 rfl HPC.out ?_;rw[HPL.out];iterate 3 (refine qP ?_)
     refine wpList_load_mid rfl 44 (.tmp 290) rfl gs 33 rfl (bytesV (Da.sha F)) _ hfd Tryz.underlying44 rfl (by rw[bytesV_length,Da.ai];kernel_rfl) ?_;refine wpList_plain rfl (fun K hK=>?_);go_simp;refine(HRE.out W6 HBM6.out.below hlm hlf (by trivial) (some ⟨gO,0,none⟩) cS S s L k m HPO.out HL32.out (by rw[HPO.out.slen,HMM.out]) (HBM6.out.rb (by rw[HPO.out.slen,HMM.out];exact hmS) HCS.out)).mono ?_;rintro e W7 ⟨oy,cy,rfl,hry,hb7⟩;refine hK _ _ ?_;clear hK K HRE hc0 hc1 hs0 hfd;iterate 5 (refine qP ?_)
     have hbm7:=HBM6.out.later hb7;have k1:=fD (⟨oy,cy,by rw[HLF.out],hry⟩:RowV F (.slice oy lf cy) W7);have k2:=fD (⟨oF,cF,by rw[HLF.out],HF.out.later hbm7.below⟩:RowV F (.slice oF lf cF) W7);have k3:=str_eql17 ⟨F.toArray⟩;have hc2:=HC2.out W7 hbm7.below;have HBM7:=Lh hbm7;clear hbm7 hry hb7 HBM6;go_wp2_with fail;go_ret;exact⟨rfl,Ks HB1.out HBM7.out.below⟩
theorem bk17_any(A:Nat->Addr)(MK F:BL)(ok oF:Option Addr)(ck cF:Nat)(N:Int)(p:Pm15)(oz:Option Addr)(cz:Nat)(zs:List HitT)(w:World)
  (hK:RowIs w ok (bytesV MK) ck) (hF:RowIs w oF (bytesV F) cF) (hZ:HitsIs w oz zs cz) (hN:bG N) (hok:p.ok) (hV:Cds w) (hE:E17 w A) (hc4:w.cell? ⟨1,0,none⟩=some (.iface 302 (.pointer (some (A 4))))):
  Calls Tryz.prog 4 #[.agg (mdA (.slice ok MK.length ck) N (.slice oF F.length cF) p),.slice oz zs.length cz] w fun e w'=>e=.returned (.bool true)/\Below w.heap.size w w':=
 aBU _ _ rfl F2 rfl q9 A MK F ok oF ck cF N p oz cz zs w hK hF hZ hN hok hV hE hc4
