/- Cg17 -/
import Derived.Test.YteldgablpehcpaaGreatDoorSx17
import Derived.Test.YteldgablpehcpaaGreatDoorCh16
set_option linter.unusedVariables false
set_option linter.unusedSimpArgs false
set_option maxRecDepth 100000
set_option maxHeartbeats 8000000
namespace Go.Proofs.YteldgablpehcpaaGreatDoor
open Go.RowKit
theorem tJ(p:Option Addr)(q:Nat)(w:World):Calls Tryz.prog 61 #[.slice p 8 q] w fun e w'=>e=.returned (.bool true)/\w'=w:=by
 go_enter Tryz.func61,Tryz.ntmps61
 go_wp2_with fail;go_ret;exact⟨rfl,rfl⟩
theorem wW(p:Option Addr)(L q:Nat)(w:World)(h:L≠8)(hL:L<=9223372036854775807):Calls Tryz.prog 61 #[.slice p L q] w fun e w'=>e=.returned (.bool false)/\w'=w:=by
 have h1:decide ((L:Int)=8)=false:=decide_eq_false qO;have h2:((L:Int)==8)=false:=by rw[Bool.eq_false_iff];intro h;simp at h;omega
 go_enter Tryz.func61,Tryz.ntmps61
 go_wp2_with fail;go_ret;exact⟨rfl,rfl⟩
def WL(k9:BL)(B:L8)(n gs:Nat)(w wb:World)(iv:Value)(wr:World):Prop:=
 ∃(k:Nat)(xs:List Value),k<=n/\iv=.int .i64 (k:Int)/\Arr wr gs 22 xs/\Els wr (Da.pQ k9 B k) xs/\Below wb.heap.size wb wr
theorem wX(A:Nat->Addr)(k9:BL)(o:Option Addr)(c:Nat)(B:L8)(n cb:Nat)(ob:Option Addr)(w:World)(hK:RowIs w o (bytesV k9) c)(hB:RbIs w ob B cb)(hn:B.length=n)(hl:n<=1000)(hkl:k9.length<=900000)(hV:Cds w)(hE:E16 w A):
  Calls Tryz.prog 31 #[.slice o k9.length c,.slice ob n cb] w fun e w'=>∃g ys,e=.returned (.tuple #[.slice (some ⟨g,0,none⟩) n n,.nilIface])/\Arr w' g 22 ys/\Els w' (Da.pQ k9 B n) ys/\Below w.heap.size w w':=by
 have h1:=hB.le.1;have h2:=hB.le.2;rw[hn]at h1;unfold maxLen at h2;obtain⟨gs,hgs⟩:=qM w.heap.size;obtain⟨W1,hW1⟩:=qM (w.alloc (.cells (Array.replicate n (.slice none 0 0)) 22));have hmr:=oU n qO w;rw[hW1,hgs]at hmr;have hb1:Below w.heap.size w W1:=by rw[<-hW1];exact aH _ _
 have hA1:Arr W1 gs 22 (List.replicate n (.slice none 0 0)):=by rw[<-hW1,<-hgs];have:=Arr.made w 22 (List.replicate n (.slice none 0 0));simpa using this
 have HX0:Hid (WL k9 B n gs w w (.int .i64 0) W1):=Lh ⟨0,_,Nat.zero_le _,rfl,hA1,by rw[Da.Jy,hn];exact mr W1 n,hb1⟩;obtain⟨lk,hlk⟩:=qM k9.length;have HLK:=Lh hlk;have HGS:Hid (w.heap.size<=gs):=Lh (Nat.le_of_eq hgs);have HK:=Lh hK;have HBB:=Lh hB;have HN:=Lh hn;have HV:=Lh hV;have HE:=Lh hE;have HMR:=Lh hmr;have hnn:=dO;rw[hlk];clear hgs hW1 hmr hb1 hA1 hK hB hn hV hE hlk;go_enter Tryz.func31,Tryz.ntmps31
 go_upto_region 1 with fail
 apply wp_region_lit;iterate 2 (refine qP ?_)
 have hmr:=HMR.out;refine qP ?_;clear hmr;go_wp2_with fail;go_loopw [16] (fun iv wr=>WL k9 B n gs w w iv wr) (fun iv _=>n-(intOf iv).toNat)
 case atStart=>exact HX0.out
 case round=>
  obtain⟨k,ys,hk,rfl,hA,hEl,hBw⟩:=hrel;have HA:=Lh hA;have HEL:=Lh hEl;have HBW:=Lh hBw;clear hA hEl hBw HX0;by_cases hlt:k<n
  ·have dk:decide ((k:Int)<(n:Int))=true:=decide_eq_true qO;have dk2:decide (k<n)=true:=decide_eq_true hlt;obtain⟨b1,off1,p,q,rfl,_,hc1,hrow⟩:=(HBB.out.later HBW.out).cell k (by have:=HN.out;omega);have hq1:=hrow.le;have hq2:=hrow.cap;simp at hq1;unfold maxLen at hq2;by_cases h8:(bi B k).length=8
   ·rw[h8]at hc1;have hms:=Mv k9 o c (k:Int) (bi B k) p q A wr (HK.out.later HBW.out) hrow (HV.out.later HBW.out) (HE.out.later HBW.out).e10 hkl qO qO;have hmb:Da.mb (bi B k) (k:Int)=0:=Da.Jv _ k h8 qO;unfold Da.mk1 at hms;rw[hmb,if_pos rfl,h8,HLK.out]at hms;have HMS:=Lh hms;have H8:=Lh h8;clear hms hmb h8 hrow;go_wp2_with fail;refine(tJ _ _ _).mono ?_;rintro e w' ⟨rfl,rfl⟩;go_wp2_with fail;refine HMS.out.mono ?_;rintro e Y1 ⟨x,rfl,hx,hb⟩;have hxx:=hx;obtain⟨ox,cx,rfl,_⟩:=hxx;obtain⟨lx,hlx⟩:=qM ((Da.mk8 k9 (k:Int) (bi B k)).length);rw[hlx]at hx⊢;have hA3:=HA.out.later hb HA.out.lt;have hE3:=HEL.out.later hb;have hgw:Y1.grownBy (Y1.setCell ⟨gs,k,none⟩ (.slice ox lx cx)) (some gs):=iP Y1 gs k _;have hyl:ys.length=n:=by rw[hE3.len,Da.tA,HN.out]
    have hE4:=(hE3.putArr hA3 hE3.slices hgw).set k (hx.putArr hA3 hE3.slices hgw);rw[Da.Jz _ _ _ H8.out]at hE4;have HFIN:Hid (WL k9 B n gs w w (.int .i64 ((k:Int)+1)) (Y1.setCell ⟨gs,k,none⟩ (.slice ox lx cx))):=Lh ⟨k+1,ys.set k (.slice ox lx cx),qO,by go_num,hA3.set k _,hE4,hA3.below (Ks HBW.out hb) HGS.out k _⟩;have hfz:=hA3.frozen k;obtain⟨old,hold⟩:∃old,ys[k]? =some old:=⟨ys[k]' qO,List.getElem?_eq_getElem qO⟩;have hcell:Y1.cell? ⟨gs,k,none⟩=some old:=by rw[hA3.cell];exact hold
    have hbk0:0<=(k:Int)/\(k:Int)<(n:Int):=qO;rw[fN];clear hA3 hE3 hyl hgw hE4 hold hx hb hlx HMS;go_wp2_with fail;exact⟨HFIN.out,by simp[intOf];omega⟩
   ·obtain⟨L,hL⟩:=qM ((bi B k).length);have HFE:Hid (Els wr (Da.pQ k9 B (k+1)) ys):=Lh (by rw[<-Da.KA _ _ _ h8];exact HEL.out);rw[hL]at hc1 h8 hq1;have HW:=Lh (wW p L q wr h8 qO);clear hrow h8 hL;go_wp2_with fail;refine HW.out.mono ?_;rintro e w' ⟨rfl,rfl⟩;go_wp2_with fail;exact⟨⟨k+1,ys,qO,by go_num,HA.out,HFE.out,HBW.out⟩,by simp[intOf];omega⟩
  ·obtain rfl:k=n:=qO;have dk:decide ((k:Int)<(k:Int))=false:=decide_eq_false qO;have dk2:decide (k<k)=false:=decide_eq_false qO;go_wp2_with fail;refine bodyPost_ret (results_tmp2 rfl _ _ _) rfl ?_;exact⟨gs,ys,rfl,HA.out,HEL.out,HBW.out⟩
def WM(k3:BL)(t:Nat->Nat)(S:L8)(n gs:Nat)(wb:World)(cv iv:Value)(wr:World):Prop:=
 ∃(k:Nat)(xs:List Value),k<=n/\iv=.int .i64 (k:Int)/\cv=.int .i64 ((Da.lD k3 S k:Nat):Int)/\Arr wr gs 22 xs/\Els wr (Da.iU k3 t S n k) xs/\Below wb.heap.size wb wr
theorem zx(A:Nat->Addr)(W:World)(K9:BL)(N:Int)(p:Pm15)(oK:Option Addr)(cK:Nat)(oS:Option Addr)(cS:Nat)(S:L8)(n:Nat)(hK:RowIs W oK (bytesV K9) cK)(hS:RbIs W oS S cS)(hKl:K9.length<=100)(hF:kg S)(hN:bG N)(hok:p.ok)(hV:Cds W)(hE:E17 W A)
  (hr:Da.fH K9 N p=0) (hn:S.length=n) (hnp:Da.n16 p=n) (hn0:0<n):
  Calls Tryz.prog 30 #[.slice oK K9.length cK,.int .i64 N,.agg (pmA p),.slice oS n cS] W fun e w'=>∃g ys,e=.returned (.tuple #[.slice (some ⟨g,0,none⟩) n n,.int .i64 ((Da.lD (Da.aQ K9 N 3) S n:Nat):Int),.nilIface])/\Arr w' g 22 ys/\Els w' (Da.mo K9 N p S) ys/\Below W.heap.size W w':=by
 have hn1:n<=100:=by have:=hF.1;omega
 have h0:=Da.gK hr;obtain⟨g,hg⟩:=qM W.heap.size;obtain⟨PA,hPA⟩:=qM (pmA p);obtain⟨W1,hW1⟩:=qM (W.alloc (.cells PA 24));have hb1:Below W.heap.size W W1:=by rw[<-hW1];exact aH _ _
 have hP1:W1.heap[g]? =some (.cells PA 24 (0,0)):=by rw[<-hW1,<-hg];exact World.alloc_heap_new W _
 have HPS:Hid ((Tryz.prog.info? 24).map (·.size)=some PA.size):=Lh (by rw[<-hPA];exact aM);obtain⟨gs,hgs⟩:=qM W1.heap.size;obtain⟨W2,hW2⟩:=qM (W1.alloc (.cells (Array.replicate n (.slice none 0 0)) 22));have hmr:=oU n qO W1;rw[hW2,hgs]at hmr;have hb2:Below W1.heap.size W1 W2:=by rw[<-hW2];exact aH _ _
 have hA2:Arr W2 gs 22 (List.replicate n (.slice none 0 0)):=by rw[<-hW2,<-hgs];have:=Arr.made W1 22 (List.replicate n (.slice none 0 0));simpa using this
 obtain⟨k3,hk3⟩:=qM (Da.aQ K9 N 3);have HX0:Hid (WM k3 (Da.ez K9 N p) S n gs W1 (.int .i64 0) (.int .i64 0) W2):=Lh ⟨0,_,Nat.zero_le _,rfl,rfl,hA2,by rw[Da.Eh];exact mr W2 n,hb2⟩;have HGS:Hid (W1.heap.size<=gs):=Lh (Nat.le_of_eq hgs);have HPH:Hid (∀w',Below W1.heap.size W1 w'->w'.heap[g]? =some (.cells PA 24 (0,0))):=Lh fun w' hb=>by
  rw[hb.block g (by rw[<-hW1,World.size_alloc];omega)];exact hP1
 obtain⟨lk,hlk⟩:=qM K9.length;have HTG:Hid (∀(v:World)(i:Nat)(o:Option Addr)(c:Nat),i<n->Below W1.heap.size W1 v->RowIs v o (bytesV (bi S i)) c->Calls Tryz.prog 58 #[.slice oK lk cK,.int .i64 N,.int .i64 (i:Int),.slice o (bi S i).length c] v fun e w'=>e=.returned (.tuple #[.bool (Da.lB k3 S i),.nilIface])/\Below v.heap.size v w'):=Lh fun v i o c hi hb hr1=>by
  have:=p6 A v oK cK K9 N (i:Int) o c (bi S i) (hK.later (Ks hb1 hb)) hr1 hKl (hF.2 _ (by unfold bi;rw[List.getD_eq_getElem?_getD,List.getElem?_eq_getElem qO];exact List.getElem_mem _)) hN (by unfold bG;omega) (hV.later (Ks hb1 hb)) (hE.later (Ks hb1 hb)).e;rw[h0.2,if_pos rfl,hlk,hk3]at this;exact this
 have HBK:Hid (∀(v:World)(i:Nat),i<n->Below W1.heap.size W1 v->Calls Tryz.prog 59 #[.slice oK lk cK,.int .i64 N,.agg PA,.int .i64 (i:Int)] v fun e w'=>e=.returned (.tuple #[.int .i64 ((Da.rU K9 N p i:Nat):Int),.nilIface])/\Below v.heap.size v w'):=Lh fun v i hi hb=>by
  have:=tG A v oK cK K9 N p (i:Int) (hK.later (Ks hb1 hb)) hKl hN (by unfold bG;omega) hok (hV.later (Ks hb1 hb)) (hE.later (Ks hb1 hb)).e;have hpb:Da.dE K9 N p (i:Int)=0:=by
   unfold Da.dE Da.iQ;rw[if_pos h0.2,if_pos (Da.td.2 qO)]
  have hsn:Da.a6 p 0=0:=by unfold Da.a6;rw[if_pos h0.1]
  rw[hpb,hsn,if_pos rfl,hPA,hlk]at this;refine this.mono ?_;rintro e w' ⟨x,rfl,hx,hb'⟩;rcases hx with ⟨hx,_⟩|⟨_,rfl⟩
  ·exact absurd h0.1 hx
  ·exact⟨by rw[fN];rfl,hb'⟩
 have HPT:Hid (∀(v:World)(i:Nat)(o:Option Addr)(c:Nat),Da.lB k3 S i=true->Below W1.heap.size W1 v->RowIs v o (bytesV (bi S i)) c->Calls Tryz.prog 60 #[.slice o (bi S i).length c] v fun e w'=>∃x y,e=.returned (.tuple #[x,y,.nilIface])/\RowV ((bi S i).take 8) x w'/\Below v.heap.size v w'):=Lh fun v i o c hi hb hr1=>by
  have h16:=Da.wK hi;have:=tD A v o c (bi S i) hr1 qO (hE.later (Ks hb1 hb)).e;rw[if_pos h16,if_pos h16,if_pos h16]at this;refine this.mono ?_;rintro e w' ⟨x,y,rfl,hx,_,hb'⟩;exact⟨x,y,rfl,hx,hb'⟩
 have HPUT:Hid (∀j,j<n->Da.lB k3 S j=true->Da.rU K9 N p j<n/\(Da.iU k3 (Da.ez K9 N p) S n j).set (Da.rU K9 N p j) ((bi S j).take 8)=Da.iU k3 (Da.ez K9 N p) S n (j+1)):=Lh fun j hj hjo=>by
  refine⟨by rw[<-hnp];exact Da.rV qO qO,Da.Ei _ _ _ _ _ _ (fun i hi=>Da.uA qO qO) (Da.Hd qO qO) hjo⟩
 have HFE:Hid (Da.mo K9 N p S=Da.iU k3 (Da.ez K9 N p) S n n):=Lh (by unfold Da.mo;rw[hk3,hnp]);obtain⟨bb,offb,pp,qq,rfl,_,_,_⟩:=hS.cell 0 qO;have HBC:Hid (∀k,k<n->∃p1 q1,(∀v,Below W1.heap.size W1 v->v.cell? ⟨bb,offb+k,none⟩=some (.slice p1 (bi S k).length q1))/\RowIs W1 p1 (bytesV (bi S k)) q1):=Lh fun k hk=>by
  obtain⟨b',off',p1,q1,e,hlt,hc,hr⟩:=(hS.later hb1).cell k qO;cases e
  exact⟨p1,q1,fun v hv=>(hv.cell (p:=⟨bb,offb+k,none⟩) hlt).trans hc,hr⟩
 have hs1:=hS.le;rw[hn]at hs1;have hs2:=hs1.2;unfold maxLen at hs2;have HB1:=Lh hb1;have HW1:=Lh hW1;have HG:=Lh hg;have HMR:=Lh hmr;have HN1:=Lh hn1;have hnn:=dO;rw[hPA,hlk,hk3];clear hK hKl hF hN hok hV hE hr hn hnp hn0 h0 hg hPA hW1 hb1 hP1 hgs hW2 hmr hb2 hA2 hk3 hlk hS hn1;go_enter Tryz.func30,Tryz.ntmps30
 go_upto_region 1 with fail
 rw[HW1.out,HG.out];apply wp_region_lit;iterate 2 (refine qP ?_)
 have hmr:=HMR.out;refine qP ?_;clear hmr;go_wp2_with fail;go_loopw [12,23] (fun cv iv wr=>WM k3 (Da.ez K9 N p) S n gs W1 cv iv wr) (fun _ iv _=>n-(intOf iv).toNat)
 case atStart=>exact HX0.out
 case round=>
  obtain⟨k,ys,hk,rfl,rfl,hA,hEl,hBw⟩:=hrel;have HA:=Lh hA;have HEL:=Lh hEl;have HBW:=Lh hBw;clear hA hEl hBw HX0;have hk90:=HN1.out;by_cases hlt:k<n
  ·have dk:decide ((k:Int)<(n:Int))=true:=decide_eq_true qO;have dk2:decide (k<n)=true:=decide_eq_true hlt;have hbk0:0<=(k:Int)/\(k:Int)<(n:Int):=qO;obtain⟨p1,q1,hbk,hr1⟩:=HBC.out k hlt;have hcb:=hbk wr HBW.out;have htg:=HTG.out wr k p1 q1 hlt HBW.out (hr1.later HBW.out);obtain⟨L,hL⟩:=qM ((bi S k).length);rw[hL]at hcb htg;have HTK:=Lh htg;have HR1:=Lh hr1;have HL:=Lh hL;have hgl:=Da.S6 k3 S k;have hgs:Da.lD k3 S (k+1)=Da.lD k3 S k+if Da.lB k3 S k=true then 0 else 1:=rfl;have HGQ:=Lh hgs;obtain⟨gq,hgq⟩:=qM (Da.lD k3 S k);have HGG:=Lh hgq;rw[hgq]at hgl⊢;clear htg hbk hr1 hL hgs hgq;go_wp2_with fail;refine HTK.out.mono ?_;rintro e Y1 ⟨rfl,hb⟩;have HBY:=Lh (Ks HBW.out hb);have HA3:=Lh (HA.out.later hb HA.out.lt);have HE3:=Lh (HEL.out.later hb);clear hb HTK hcb;by_cases ho:Da.lB k3 S k=true
   rotate_left
   ·have hof:Da.lB k3 S k=false:=by simpa using ho
    rw[hof];have HY:Hid (Da.lD k3 S (k+1)=gq+1):=Lh (by rw[HGQ.out,HGG.out,if_neg ho]);have HFX:Hid (Els Y1 (Da.iU k3 (Da.ez K9 N p) S n (k+1)) ys):=Lh (by rw[<-Da.Ej _ _ _ _ _ hof];exact HE3.out);clear ho hof;go_wp2_with fail;exact⟨⟨k+1,ys,qO,by go_num,by rw[HY.out];go_num,HA3.out,HFX.out,HBY.out⟩,by simp[intOf];omega⟩
   rw[ho];have HOK:=Lh ho;have HY:Hid (Da.lD k3 S (k+1)=gq):=Lh (by rw[HGQ.out,HGG.out,if_pos ho];rfl);have hph:=HPH.out Y1 HBY.out;have HPQ:=Lh hph;clear ho hph;go_upto_region 10 with fail
   apply wp_region_lit;iterate 2 (refine qP ?_)
   refine wpList_load_row rfl 24 (.tmp 6) rfl g rfl 24 PA (0,0) _ HPQ.out Tryz.underlying24 rfl HPS.out ?_;refine qP ?_;refine wpList_plain rfl (fun K hK=>?_);go_simp;refine(HBK.out Y1 k hlt HBY.out).mono ?_;rintro e Y2 ⟨rfl,hb⟩;refine hK _ _ ?_;clear hK K;have HBZ:=Lh (Ks HBY.out hb);have HA4:=Lh (HA3.out.later hb HA3.out.lt);have HE4:=Lh (HE3.out.later hb);clear hb HPQ;obtain⟨fk,hfk⟩:=qM (Da.rU K9 N p k);obtain⟨hfl,hput⟩:=HPUT.out k hlt HOK.out;have hpt:=HPT.out Y2 k p1 q1 HOK.out HBZ.out (HR1.out.later HBZ.out);rw[hfk]at hfl hput⊢;rw[HL.out]at hpt;have HPP:=Lh hpt;have HPU:=Lh hput;clear hfk hput hpt;have hfl0:0<=(fk:Int)/\(fk:Int)<(n:Int):=qO;go_wp2_with fail;refine HPP.out.mono ?_;rintro e Y3 ⟨x,y,rfl,hx,hb⟩;have hxx:=hx;obtain⟨ox,cx,rfl,_⟩:=hxx;have hlx:((bi S k).take 8).length=8:=by rw[List.length_take,Da.wK HOK.out];rfl
   rw[hlx]at hx⊢;have hA5:=HA4.out.later hb HA4.out.lt;have hE5:=HE4.out.later hb;have hyl:ys.length=n:=by rw[hE5.len,Da.iO]
   have hgw:Y3.grownBy (Y3.setCell ⟨gs,fk,none⟩ (.slice ox 8 cx)) (some gs):=iP Y3 gs fk _;have hE6:=(hE5.putArr hA5 hE5.slices hgw).set fk (hx.putArr hA5 hE5.slices hgw);rw[HPU.out]at hE6;have HFIN:Hid (WM k3 (Da.ez K9 N p) S n gs W1 (.int .i64 (gq:Int)) (.int .i64 ((k:Int)+1)) (Y3.setCell ⟨gs,fk,none⟩ (.slice ox 8 cx))):=Lh ⟨k+1,ys.set fk (.slice ox 8 cx),qO,by go_num,by rw[HY.out],hA5.set fk _,hE6,hA5.below (Ks HBZ.out hb) HGS.out fk _⟩;have hfz:=hA5.frozen fk;obtain⟨old,hold⟩:∃old,ys[fk]? =some old:=⟨ys[fk]' qO,List.getElem?_eq_getElem qO⟩;have hcell:Y3.cell? ⟨gs,fk,none⟩=some old:=by rw[hA5.cell];exact hold
   clear hA5 hE5 hyl hgw hE6 hold hx hb hlx HPP HPU;go_wp2_with fail;exact⟨HFIN.out,by simp[intOf];omega⟩
  ·obtain rfl:k=n:=qO;have dk:decide ((k:Int)<(k:Int))=false:=decide_eq_false qO;have dk2:decide (k<k)=false:=decide_eq_false qO;go_wp2_with fail;refine bodyPost_ret (results_tmp3 rfl _ _ _) rfl ?_;exact⟨gs,ys,rfl,HA.out,by rw[HFE.out];exact HEL.out,Ks HB1.out HBW.out⟩
