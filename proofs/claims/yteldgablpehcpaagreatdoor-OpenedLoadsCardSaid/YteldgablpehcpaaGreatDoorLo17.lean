/- Lo17 -/
import Derived.Test.YteldgablpehcpaaGreatDoorYL
import Derived.Test.YteldgablpehcpaaGreatDoorAn17
import Derived.Test.YteldgablpehcpaaGreatDoorCm17
import Derived.Test.YteldgablpehcpaaGreatDoorErr
set_option linter.unusedVariables false
set_option linter.unusedSimpArgs false
set_option maxRecDepth 100000
set_option maxHeartbeats 8000000
namespace Go.Proofs.YteldgablpehcpaaGreatDoor
open Go.RowKit
theorem Da.Km(e t:Int):Da.kG e t=true↔0<=e/\0<=t/\e<=32/\t<=32/\e+t+t<=32:=by
 unfold Da.kG;simp only[Bool.and_eq_true,decide_eq_true_eq];omega
theorem Kn(bs:L8)(l:List Nat)(hl:∀g,szG l g<=223)(g k:Nat)(hk:k<(erG bs l g).length): -9223372036854775808<=(erG bs l g).getD k 0/\(erG bs l g).getD k 0<=9223372036854775807:=by
 have h:∀x∈erG bs l g,0<=x/\x<=300:=by
  clear hk;induction g with
  |zero=>intro x hx;cases hx
  |succ g ih=>
   intro x hx;unfold erG at hx;rcases List.mem_append.1 hx with hx|hx
   ·exact ih x hx
   ·rw[List.mem_singleton.1 hx];have h1:=eE (dD bs l g) (szG l g+32);have h2:=hl g;omega
 have:=h _ (kH hk);omega
theorem Pq(n:Nat)(hn:n<=2000)(g:Nat):szG (shp n) g<=223:=by
 have hm:∀k∈shp n,1<=k/\k<=223:=jF (nbk n) (fE _) (eM _ hn);unfold szG;by_cases h:g<(shp n).length
 ·rw[List.getD_eq_getElem?_getD,List.getElem?_eq_getElem h];exact(hm _ (List.getElem_mem h)).2
 ·rw[List.getD_eq_getElem?_getD,List.getElem?_eq_none qO];simp
theorem Ko(w:World):Sem.run Tryz.prog (zeroValue 32) w=.ok (.agg (pmA ⟨0,0,0,0,0,0⟩)) w:=qK
theorem Kq:(Tryz.prog.info? 32).map (·.size)=some 6:=qK
def Lo1(E C:List Int)(b0:Bool)(n:Nat)(w:World)(okv iv:Value)(wr:World):Prop:=∃k:Nat,k<=n/\iv=.int .i64 (k:Int)/\okv=.bool (b0&&Da.oX E C k)/\wr=w
def Lo2(G:L8)(n:Nat)(w:World)(xv iv:Value)(wr:World):Prop:=∃k:Nat,k<=n/\iv=.int .i64 (k:Int)/\xv=.int .i64 ((gnL G k).length:Int)/\wr=w
theorem TU(ZQ:Array Value)(hZQ:pmA ⟨0,0,0,0,0,0⟩=ZQ)(hzq:∀w,Sem.run Tryz.prog (zeroValue 32) w=.ok (.agg ZQ) w)(U:Er.ee)(A:Nat->Addr)(p:Pm15)(bs:L8)(o:Option Addr)(c:Nat)(x0:Int)(oE oC:Option Addr)(cE cC:Nat)(E C:List Int)(w:World)
  (hok:p.ok) (hB:RbIs w o bs c) (hrE:RowIs w oE (aF E) cE) (hrC:RowIs w oC (aF C) cC) (iE:∀n∈E,bG n) (iC:∀n∈C,bG n) (hV:Cds w) (hEr:Er.Errs w A):
  Calls Tryz.prog 6 #[.agg (pmA p),.slice o bs.length c,.agg #[.int .i64 x0,.slice oE E.length cE,.slice oC C.length cC]] w fun e w'=>e=.returned (.bool true)/\Below w.heap.size w w':=by
 obtain⟨g,hg⟩:=qM w.heap.size;obtain⟨PA,hPA⟩:=qM (pmA p);obtain⟨m,hm⟩:=qM bs.length;obtain⟨lE,hlE⟩:=qM E.length;obtain⟨lC,hlC⟩:=qM C.length;obtain⟨RA,hRA⟩:∃RA:Array Value,(#[.int .i64 x0,.slice oE lE cE,.slice oC lC cC]:Array Value)=RA:=⟨_,rfl⟩;obtain⟨W1,hW1⟩:=qM ((w.alloc (.cells PA 24)).alloc (.cells RA 39));have hb1:Below w.heap.size w W1:=by rw[<-hW1];exact Ks (aH _ _) (aH _ _)
 have hA1:Arr W1 g 24 (pmL p):=by
  have h1:Arr (w.alloc (.cells PA 24)) g 24 (pmL p):=by rw[<-hPA,<-hg];exact World.alloc_heap_new w _
  rw[<-hW1];exact h1.alloc _
 have hR1:W1.heap[g+1]? =some (.cells RA 39 (0,0)):=by rw[<-hW1,<-hg];exact ff _ _ _ _
 have HPH:Hid (∀v,Below W1.heap.size W1 v->v.heap[g]? =some (.cells PA 24 (0,0))):=Lh fun v hv=>by
  have:=hA1.later hv hA1.lt;unfold Arr at this;rw[show(pmL p).toArray=PA from hPA]at this;exact this
 have HS0:Hid (∀v,Below W1.heap.size W1 v->v.cell? ⟨g,0,none⟩=some (.int .i64 p.sz)):=Lh fun v hv=>by rw[(hA1.later hv hA1.lt).cell];rfl
 have HRH:Hid (∀v,Below W1.heap.size W1 v->v.heap[g+1]? =some (.cells RA 39 (0,0))):=Lh fun v hv=>(hv.block (g+1) (aE.1 hR1).1).trans hR1
 have HF:Hid (∀v,Below W1.heap.size W1 v->v.cell? ⟨g+1,1,none⟩=some (.slice oE lE cE)/\v.cell? ⟨g+1,2,none⟩=some (.slice oC lC cC)):=Lh fun v hv=>by
  have h:=(hv.block (g+1) (aE.1 hR1).1).trans hR1;rw[<-hRA]at h;unfold World.cell?;rw[h];exact⟨rfl,rfl⟩
 have HAL:=Lh (Cl A W1 (hV.later hb1) (hEr.later hb1).e17);have HFW:Hid (∀v,Below W1.heap.size W1 v->Calls Tryz.prog 9 #[.slice o m c] v fun e w'=>∃b,e=.returned (.bool b)/\(b=true->kg bs)/\w'=v):=Lh fun v hv=>yW bs m c o v (hB.later (Ks hb1 hv)) hm
 have HEN:Hid (∀v,Below W1.heap.size W1 v->Calls Tryz.prog 24 #[.agg RA] v fun e w'=>e=.returned (.bool (Da.fV E C))/\Below v.heap.size v w'):=Lh fun v hv=>by
  have:=AA v x0 oE oC cE cC E C (hrE.later (Ks hb1 hv)) (hrC.later (Ks hb1 hv)) iE iC;rw[hlE,hlC,hRA]at this;exact this
 obtain⟨LB,hLB⟩:=qM (Da.oV p m);obtain⟨ZL,hZL⟩:=qM ((if Da.a6 p LB=0 then erG bs (shp p.sz.toNat) (shp p.sz.toNat).length else[]));have HLD:Hid (∀v,Below W1.heap.size W1 v->kg bs->Calls Tryz.prog 26 #[.agg PA,.slice o m c] v fun e w'=>∃x u,e=.returned (.tuple #[x,u])/\IntsV ZL x w'/\SeV A p LB w' u/\Below v.heap.size v w'):=Lh fun v hv hf=>by
  have:=F6 A v p o c bs (hB.later (Ks hb1 hv)) hf.1 hok (hEr.later (Ks hb1 hv)).e17;rw[hm,hLB,hZL,hPA]at this;exact this
 obtain⟨er,her⟩:=qM (Da.ef (Da.aU p));have HCK:Hid (∀v,Calls Tryz.prog 27 #[.agg PA] v fun e w'=>∃tx va,e=.returned (.tuple #[tx,.int .i64 va,.int .i64 (er:Int)])/\Below v.heap.size v w'):=Lh fun v=>by
  have:=io p hok v;rw[hPA,her]at this;exact this.mono fun e w' ⟨h1,h2⟩=>⟨_,_,h1,h2⟩
 have HNM:Hid (∀(v:World)(u:Value)(v':World),Below W1.heap.size W1 v->SeV A p LB v u->Calls Tryz.prog 16 #[u] v fun e w'=>e=.returned (.int .i64 ((Da.a6 p LB:Nat):Int))/\Below v.heap.size v w'):=Lh fun v u _ hv hu=>by
  refine S2 U A p LB ?_ u v (hEr.later (Ks hb1 hv)) hu;rw[<-hLB];unfold Da.oV;split<;>omega
 have HPS:Hid ((Tryz.prog.info? 24).map (·.size)=some PA.size):=Lh (by rw[<-hPA];exact aM);have HQS:Hid ((Tryz.prog.info? 32).map (·.size)=some PA.size/\ZQ.size=PA.size/\PA.all (·.oneCell')=true):=Lh ⟨by rw[<-hPA];exact Kq,by rw[<-hZQ,<-hPA];rfl,by rw[<-hPA];unfold pmA;simp[Value.oneCell']⟩;have HRS:Hid ((Tryz.prog.info? 39).map (·.size)=some RA.size):=Lh (by rw[kE,<-hRA];rfl);have hs1:=hB.le;rw[hm]at hs1;have hs2:=hs1.2;unfold maxLen at hs2;have he1:=hrE.le;have he2:=hrE.cap;have hc1:=hrC.le;have hc2:=hrC.cap;simp at he1 hc1;rw[hlE]at he1;rw[hlC]at hc1;unfold maxLen at he2 hc2;have HREE:Hid (RowIs W1 oE (aF E) cE):=Lh (hrE.later hb1);have HRCC:Hid (RowIs W1 oC (aF C) cC):=Lh (hrC.later hb1);have HIE:=Lh iE;have HIC:=Lh iC;have HLE:=Lh hlE;have HLC:=Lh hlC;have HB1:=Lh hb1;have HG:=Lh hg;have HW1:=Lh hW1;have HOK:=Lh hok;have HBB:Hid (RbIs W1 o bs c):=Lh (hB.later hb1);have HMM:=Lh hm;have HLBB:=Lh hLB;have HZL:=Lh hZL;have HER:=Lh her;have hnn:=dO;rw[hm,hlE,hlC,hRA,hPA];clear hg hPA hm hlE hlC hRA hW1 hb1 hA1 hR1 hok hB hrE hrC iE iC hV hEr hLB hZL her hZQ;go_enter Tryz.func6,Tryz.ntmps6
 go_upto_region 1 with fail
 rw[HW1.out,HG.out];go_wp2_with fail;refine HAL.out.mono ?_;rintro e W2 ⟨rfl,hb2⟩;have HB2:=Lh hb2;clear hb2 HAL;go_upto_region 3 with fail
 have hf1:=(HF.out W2 HB2.out).1;have hf2:=(HF.out W2 HB2.out).2;apply wp_region_lit;refine qP ?_;refine wpList_plain rfl (fun K hK=>?_);go_simp;refine(HFW.out W2 HB2.out).mono ?_;rintro e W3 ⟨b,rfl,hfw,rfl⟩;refine hK _ _ ?_;clear hK K HFW;cases b with
 |false=>
  go_wp2_with fail;go_ret;exact⟨rfl,Ks HB1.out HB2.out⟩
 |true=>
  have HFEW:=Lh (hfw rfl);clear hfw;by_cases h20:20<lE
  ·have d1:decide ((lE:Int)>20)=true:=decide_eq_true qO;have d2:decide (20<lE)=true:=decide_eq_true h20;go_wp2_with fail;go_ret;exact⟨rfl,Ks HB1.out HB2.out⟩
  by_cases h21:20<lC
  ·have d1:decide ((lE:Int)>20)=false:=decide_eq_false qO;have d2:decide (20<lE)=false:=decide_eq_false h20;have d3:decide ((lC:Int)>20)=true:=decide_eq_true qO;have d4:decide (20<lC)=true:=decide_eq_true h21;go_wp2_with fail;go_ret;exact⟨rfl,Ks HB1.out HB2.out⟩
  have d1:decide ((lE:Int)>20)=false:=decide_eq_false qO;have d2:decide (20<lE)=false:=decide_eq_false h20;have d3:decide ((lC:Int)>20)=false:=decide_eq_false qO;have d4:decide (20<lC)=false:=decide_eq_false h21;obtain⟨b0,hb0⟩:=qM (decide (lE=lC));have hq1:((lE:Int)==(lC:Int))=b0:=by
   rw[<-hb0];by_cases h:lE=lC
   ·rw[h,beq_self_eq_true,decide_eq_true rfl]
   ·rw[decide_eq_false h];exact beq_false_of_ne qO
  have HB0:=Lh hb0;have HEB:Hid (Da.fV E C=(b0&&Da.oX E C lE)):=Lh (by unfold Da.fV;rw[HLE.out,HLC.out,hb0]);clear hb0 h20 h21;go_wp2_with fail;go_loopw [7,54] (fun okv iv wr=>Lo1 E C b0 lE W3 okv iv wr) (fun _ iv _=>lE-(intOf iv).toNat)
  case atStart=>exact⟨0,Nat.zero_le _,rfl,by show _=Value.bool (b0&&true);rw[Bool.and_true],rfl⟩
  case round=>
   obtain⟨k,hk,rfl,rfl,rfl⟩:=hrel;by_cases hlt:k<lE
   ·have hk0:(0:Int)<=(k:Int):=qO;have hk1:(k:Int)<(lE:Int):=qO;obtain⟨b1,off1,rfl,_,hce⟩:=(HREE.out.later HB2.out).cells (by simp;have:=HLE.out;omega);have hx1:=hce k _ (gQ E k (by have:=HLE.out;omega));have hi1:=HIE.out _ (kH (E:=E) (k:=k) (by have:=HLE.out;omega));have hs:Da.oX E C (k+1)=(Da.oX E C k&&Da.kG (E.getD k 0) (C.getD k 0)):=rfl;obtain⟨e,he⟩:=qM (E.getD k 0);rw[he]at hx1 hi1 hs;have HE1:=Lh hi1;have HSS:=Lh hs;obtain⟨q,hq⟩:=qM ((b0&&Da.oX E C k));have HQQ:=Lh hq;rw[hq];clear hce hi1 hs he hq;cases q with
    |false=>
     go_wp2_with fail;go_roundw
     case rel=>exact⟨k+1,qO,by go_num,by rw[HSS.out,<-Bool.and_assoc,HQQ.out,Bool.false_and],rfl⟩
     case measure=>simp[intOf];omega
    |true=>
     have hbt:b0=true/\Da.oX E C k=true:=by have:=HQQ.out;rw[Bool.and_eq_true]at this;exact this
     have hll:lE=lC:=by have:=HB0.out;rw[hbt.1,decide_eq_true_eq]at this;exact this
     have hk2:(k:Int)<(lC:Int):=qO;obtain⟨b2,off2,rfl,_,hcc⟩:=(HRCC.out.later HB2.out).cells (by simp;have:=HLC.out;omega);have hx2:=hcc k _ (gQ C k (by have:=HLC.out;omega));have hi2:=HIC.out _ (kH (E:=C) (k:=k) (by have:=HLC.out;omega));have hs2:=HSS.out;obtain⟨t,ht⟩:=qM (C.getD k 0);rw[ht]at hx2 hi2 hs2;have HRR:Hid ((b0&&Da.oX E C (k+1))=Da.kG e t):=Lh (by rw[hs2,hbt.1,hbt.2,Bool.true_and,Bool.true_and]);have HE2:=Lh hi2;have hbi:=Da.Km e t;have HBI:=Lh hbi;clear hcc hi2 hs2 ht hbt hll hbi;by_cases c0:0<=e
     rotate_left
     ·have e0a:decide (0<=e)=false:=decide_eq_false c0;have e0b:decide (e>=0)=false:=decide_eq_false c0;have HV:Hid (Da.kG e t=false):=Lh (by rw[Bool.eq_false_iff];intro h;have:=HBI.out.1 h;omega);go_wp2_with fail;go_roundw
      case rel=>exact⟨k+1,qO,by go_num,by rw[HRR.out,HV.out],rfl⟩
      case measure=>simp[intOf];omega
     have e0a:decide (0<=e)=true:=decide_eq_true c0;have e0b:decide (e>=0)=true:=decide_eq_true c0;by_cases c1:0<=t
     rotate_left
     ·have e1a:decide (0<=t)=false:=decide_eq_false c1;have e1b:decide (t>=0)=false:=decide_eq_false c1;have HV:Hid (Da.kG e t=false):=Lh (by rw[Bool.eq_false_iff];intro h;have:=HBI.out.1 h;omega);go_wp2_with fail;go_roundw
      case rel=>exact⟨k+1,qO,by go_num,by rw[HRR.out,HV.out],rfl⟩
      case measure=>simp[intOf];omega
     have e1a:decide (0<=t)=true:=decide_eq_true c1;have e1b:decide (t>=0)=true:=decide_eq_true c1;by_cases c2:e<=32
     rotate_left
     ·have e2a:decide (e<=32)=false:=decide_eq_false c2;have HV:Hid (Da.kG e t=false):=Lh (by rw[Bool.eq_false_iff];intro h;have:=HBI.out.1 h;omega);go_wp2_with fail;go_roundw
      case rel=>exact⟨k+1,qO,by go_num,by rw[HRR.out,HV.out],rfl⟩
      case measure=>simp[intOf];omega
     have e2a:decide (e<=32)=true:=decide_eq_true c2;by_cases c3:t<=32
     rotate_left
     ·have e3a:decide (t<=32)=false:=decide_eq_false c3;have HV:Hid (Da.kG e t=false):=Lh (by rw[Bool.eq_false_iff];intro h;have:=HBI.out.1 h;omega);go_wp2_with fail;go_roundw
      case rel=>exact⟨k+1,qO,by go_num,by rw[HRR.out,HV.out],rfl⟩
      case measure=>simp[intOf];omega
     have e3a:decide (t<=32)=true:=decide_eq_true c3;have hw1:IntKind.i64.wrap (e+t)=e+t:=by rw[IntKind.wrap_i64];omega
     have hw2:IntKind.i64.wrap (e+t+t)=e+t+t:=by rw[IntKind.wrap_i64];omega
     by_cases c4:e+t+t<=32
     rotate_left
     ·have e4a:decide (e+t+t<=32)=false:=decide_eq_false c4;have HV:Hid (Da.kG e t=false):=Lh (by rw[Bool.eq_false_iff];intro h;have:=HBI.out.1 h;omega);go_wp2_with fail;go_roundw
      case rel=>exact⟨k+1,qO,by go_num,by rw[HRR.out,HV.out],rfl⟩
      case measure=>simp[intOf];omega
     have e4a:decide (e+t+t<=32)=true:=decide_eq_true c4;have HV:Hid (Da.kG e t=true):=Lh (by rw[HBI.out];omega);go_wp2_with fail;go_roundw
     case rel=>exact⟨k+1,qO,by go_num,by rw[HRR.out,HV.out],rfl⟩
     case measure=>simp[intOf];omega
   ·obtain rfl:k=lE:=qO;obtain⟨en,hen⟩:=qM (Da.fV E C);rw[<-HEB.out,hen];have hne:=HEN.out wr HB2.out;rw[hen]at hne;have HNE:=Lh hne;have HRW:=Lh (HRH.out wr HB2.out);have hbx:(en !=en)=false:=by cases en<;>rfl
    clear hne hen hf1 hf2;go_upto_region 13 with fail
    apply wp_region_lit;refine wpList_load_row rfl 39 (.tmp 5) rfl (g+1) rfl 39 RA (0,0) _ HRW.out Tryz.underlying39 rfl HRS.out ?_;refine wpList_plain rfl (fun K hK=>?_);go_simp;refine HNE.out.mono ?_;rintro e W4 ⟨rfl,hb4⟩;refine hK _ _ ?_;clear hK K HNE HRW;have HB4:=Lh (Ks HB2.out hb4);clear hb4;have HPW:=Lh (HPH.out W4 HB4.out);have HLW:=Lh (HLD.out W4 HB4.out HFEW.out);go_upto_region 15 with fail
    apply wp_region_lit;refine wpList_load_row rfl 24 (.tmp 3) rfl g rfl 24 PA (0,0) _ HPW.out Tryz.underlying24 rfl HPS.out ?_;refine qP ?_;refine wpList_plain rfl (fun K hK=>?_);go_simp;refine HLW.out.mono ?_;rintro e W5 ⟨x,u,rfl,⟨ox,cx,rfl,hrx⟩,hu,hb5⟩;refine hK _ _ ?_;clear hK K HLW HPW;have HB5:=Lh (Ks HB4.out hb5);have HRX:=Lh hrx;have HUU:=Lh hu;obtain⟨lz,hlz⟩:=qM ZL.length;rw[hlz];have HLZ:=Lh hlz;clear hb5 hrx hu hlz;iterate 5 (refine qP ?_)
    obtain⟨g6,hg6⟩:=qM W5.heap.size;obtain⟨W6,hW6⟩:=qM (W5.alloc (.cells ZQ 32));have hz6:W6.heap[g6]? =some (.cells ZQ 32 (0,0)):=by rw[<-hW6,<-hg6];exact World.alloc_heap_new W5 _
    obtain⟨W7,hW7⟩:=qM (W6.setRow g6 PA);have hp7:W7.heap[g6]? =some (.cells PA 32 (0,0)):=by rw[<-hW7];exact setRow_heap _ _ _ _ _ _ hz6
    have hb7:Below W5.heap.size W5 W7:=by rw[<-hW7,<-hW6];exact(aH _ _).trans (aA (Nat.le_of_eq hg6))
    have HB7:=Lh (Ks HB5.out hb7);have HUV:=Lh (HUU.out.later hb7);have HRY:=Lh (HRX.out.later hb7);have HPW:=Lh (HPH.out W5 HB5.out);have HZ6:=Lh hz6;have HP7:=Lh hp7;have HW6:=Lh hW6;have HW7:=Lh hW7;have HG6:=Lh hg6;clear hg6 hW6 hz6 hW7 hp7 hb7;go_upto_region 16 with fail
    apply wp_region_lit;refine wpList_load_row rfl 24 (.tmp 3) rfl g rfl 24 PA (0,0) _ HPW.out Tryz.underlying24 rfl HPS.out ?_;refine wpList_plain rfl (fun K hK=>?_);go_simp;rw[HW6.out,HG6.out];refine hK _ _ ?_;clear hK K;refine wpList_store_rowTo rfl 32 (.tmp 13) (.tmp 98) rfl rfl g6 PA rfl rfl 32 ZQ HZ6.out HQS.out.1 HQS.out.2.1 HQS.out.2.2 ?_;rw[HW7.out];go_upto_region 17 with fail
    apply wp_region_lit;refine wpList_load_row rfl 32 (.tmp 13) rfl g6 rfl 32 PA (0,0) _ HP7.out Tryz.underlying32 rfl HQS.out.1 ?_;refine wpList_plain rfl (fun K hK=>?_);go_simp;refine(HCK.out W7).mono ?_;rintro e W8 ⟨tx,va,rfl,hb8⟩;refine hK _ _ ?_;clear hK K HCK HW6 HW7 HZ6 HP7 HG6 HPW;have HB8:=Lh (Ks HB7.out hb8);have HU8:=Lh (HUV.out.later hb8);have HR8:=Lh (HRY.out.later hb8);clear hb8;iterate 7 (refine qP ?_)
    by_cases h0:Da.aU p=0
    rotate_left
    ·have hse:Da.a6 p LB=er:=by unfold Da.a6;rw[if_neg h0,HER.out]
     have her:er≠0:=by rw[<-hse];exact Da.ln h0 LB
     have hzl:lz=0:=by
      rw[<-HLZ.out,<-HZL.out,if_neg (by rw[hse];exact her)];rfl
     subst hzl;have hq1:((er:Int) !=0)=true:=by rw[bne_iff_ne];omega
     have hq2:((er:Int)==0)=false:=beq_false_of_ne qO;have hnm:=HNM.out W8 u W8 HB8.out HU8.out;rw[hse]at hnm;have HNN:=Lh hnm;clear hnm hse her h0;go_upto_region 19 with fail
     apply wp_region_lit;iterate 4 (refine qP ?_)
     refine BigFrame.wpList_want (by rfl) (fun K hK=>?_);go_simp;refine hK _ _ ?_;clear hK K;refine BigFrame.wpList_want (by rfl) (fun K hK=>?_);go_simp;refine HNN.out.mono ?_;rintro e W9 ⟨rfl,hb9⟩;refine hK _ _ ?_;clear hK K;have HB9:=Lh (Ks HB8.out hb9);clear hb9;iterate 2 (refine BigFrame.wpList_want (by rfl) (fun K hK=>?_);go_simp;refine hK _ _ ?_;clear hK K)
     iterate 2 (refine qP ?_)
     go_wp2_with fail;go_ret;exact⟨rfl,Ks HB1.out HB9.out⟩
    have hez:er=0:=by rw[<-HER.out];exact(Da.dW (Da.fO p)).2 h0
    subst hez;have hR:=Da.cN h0;obtain⟨s,hs⟩:∃s:Nat,p.sz=(s:Int):=⟨p.sz.toNat,by have:=hR.s0;omega⟩;have hs2':s<=2000:=by have:=hR.s1;omega
    have hst:p.sz.toNat=s:=qO;obtain⟨l,hl⟩:=qM (shp s);obtain⟨T,hT⟩:=qM (gi (nbk s));have hTT:Da.ae p.sz=T:=by unfold Da.ae;rw[hst,hT]
    have hbl:T=bc l+32*l.length:=by
     rw[<-hT];unfold gi;rw[<-hl,db];rfl
    have hmem:∀k∈l,1<=k/\k<=223:=by rw[<-hl];exact jF (nbk s) (fE s) (eM s hs2')
    have hszl:∀j,szG l j<=223:=fun j=>by rw[<-hl];exact Pq s hs2' j
    have htt:=im s W8 hs2';rw[hT]at htt;have HTO:=Lh htt;have HSHP:Hid (∀v,Calls Tryz.prog 21 #[.int .i64 (s:Int)] v fun e w'=>∃x,e=.returned (.tuple #[x,.int .i64 0])/\IntsV (sM l) x w'/\Below v.heap.size v w'):=Lh fun v=>by
     have:=gG s v hs2';rw[hl]at this;exact this
    have HSS0:Hid (∀v,Below W1.heap.size W1 v->v.cell? ⟨g,0,none⟩=some (.int .i64 (s:Int))):=Lh fun v hv=>by rw[<-hs];exact HS0.out v hv
    have HLBT:Hid (LB=if m=T then 0 else 4):=Lh (by rw[<-HLBB.out];unfold Da.oV;rw[hTT]);have HSN:Hid (Da.a6 p LB=LB):=Lh (by unfold Da.a6;rw[if_pos h0]);have HZE:Hid (LB=0->ZL=erG bs l l.length):=Lh fun h=>by rw[<-HZL.out,HSN.out,if_pos h,hst,hl]
    have HZN:Hid (LB≠0->ZL=[]):=Lh fun h=>by rw[<-HZL.out,HSN.out,if_neg h]
    have H0:=Lh h0;have HBL:=Lh hbl;have HMEM:=Lh hmem;have HSZL:=Lh hszl;have hc8:=HSS0.out W8 HB8.out;clear h0 hR hs hs2' hst hl hT hTT hbl hmem hszl htt;go_upto_region 20 with fail
    apply wp_region_lit;iterate 2 (refine qP ?_)
    refine wpList_plain rfl (fun K hK=>?_);go_simp;refine HTO.out.mono ?_;rintro e W9 ⟨rfl,hb9⟩;refine hK _ _ ?_;clear hK K HTO hc8;have HB9:=Lh (Ks HB8.out hb9);have HU9:=Lh (HU8.out.later hb9);have HR9:=Lh (HR8.out.later hb9);clear hb9;iterate 5 (refine qP ?_)
    by_cases hmT:m=T
    rotate_left
    ·have hlb:LB=4:=by rw[HLBT.out,if_neg hmT]
     have hzl:lz=0:=by rw[<-HLZ.out,HZN.out qO];rfl
     subst hzl;have hq1:((T:Int) !=(m:Int))=true:=by rw[bne_iff_ne];omega
     have hq2:((T:Int)==(m:Int))=false:=beq_false_of_ne qO;have hnm:=HNM.out W9 u W9 HB9.out HU9.out;rw[HSN.out,hlb]at hnm;have HNN:=Lh hnm;clear hnm hlb hmT;go_upto_region 22 with fail
     apply wp_region_lit;iterate 4 (refine qP ?_)
     refine BigFrame.wpList_want (by rfl) (fun K hK=>?_);go_simp;refine hK _ _ ?_;clear hK K;refine BigFrame.wpList_want (by rfl) (fun K hK=>?_);go_simp;refine HNN.out.mono ?_;rintro e W10 ⟨rfl,hb10⟩;refine hK _ _ ?_;clear hK K;have HB10:=Lh (Ks HB9.out hb10);clear hb10;refine BigFrame.wpList_want (by rfl) (fun K hK=>?_);go_simp;refine hK _ _ ?_;clear hK K;iterate 2 (refine qP ?_)
     go_wp2_with fail;go_ret;exact⟨rfl,Ks HB1.out HB10.out⟩
    subst hmT;have hlb:LB=0:=by rw[HLBT.out,if_pos rfl]
    have HZZ:=Lh (HZE.out hlb);obtain rfl:u=.nilIface:=by
     rcases HU9.out with ⟨h,_⟩|⟨_,h⟩
     ·exact absurd H0.out h
     ·rw[h,hlb];rfl
    have hq3:((m:Int) !=(m:Int))=false:=qS;have hc9:=HSS0.out W9 HB9.out;clear hlb;go_upto_region 23 with fail
    apply wp_region_lit;iterate 2 (refine qP ?_)
    refine wpList_plain rfl (fun K hK=>?_);go_simp;refine(HSHP.out W9).mono ?_;rintro e W10 ⟨xs,rfl,⟨os,cs,rfl,hrs⟩,hb10⟩;refine hK _ _ ?_;clear hK K HSHP hc9 hq3;have hc10:=hrs.cap;have hle10:=hrs.le;simp at hle10;unfold maxLen at hc10;have HB10:=Lh (Ks HB9.out hb10);have HR10:=Lh (HR9.out.later hb10);have HRS0:=Lh hrs;rw[bv];clear hb10 hrs;iterate 5 (refine qP ?_)
    obtain⟨W11,hW11⟩:=qM (W10.alloc (.cells #[] 3));have hb11:Below W10.heap.size W10 W11:=by rw[<-hW11];exact aH _ _
    have ho11:W11.ownsRow W10.heap.size 3 1 (.slice (some ⟨W10.heap.size,0,none⟩) 0 0) 0 (aF []):=by rw[<-hW11];exact World.ownsRow_lit W10 #[] 0 qN (Nat.zero_le _) rfl
    obtain⟨gw,hgw⟩:=qM W10.heap.size;rw[hgw]at ho11;have HX0:Hid (TS bs l W10 (.slice o m c) (.slice (some ⟨gw,0,none⟩) 0 0) (.int .i64 0) W11):=Lh ⟨0,_,Nat.zero_le _,(iF l).symm,rfl,⟨o,c,by simp[HMM.out],by simpa using HBB.out.later HB10.out⟩,by rw[hgw];exact ho11,hb11⟩;have HW11:=Lh hW11;have HGW:=Lh hgw;clear hW11 hb11 ho11 hgw;go_upto_region 24 with fail
    apply wp_region_lit;refine wpList_plain rfl (fun K hK=>?_);go_simp;rw[HW11.out,HGW.out];refine hK _ _ ?_;clear hK K;refine qP ?_;go_wp2_with fail;go_loopw [1,21,143] (fun v1 v9 iv wr=>TS bs l W10 v1 v9 iv wr) (fun _ _ iv _=>l.length-(intOf iv).toNat)
    case atStart=>exact HX0.out
    case round=>
     rename World=>wr
     obtain⟨k,B,hk,hB,rfl,⟨o0,c0,rfl,hv0⟩,hown,hbw⟩:=hrel;have h0l:=hv0.le.1;have h0c:=hv0.le.2;unfold maxLen at h0c;have hdl:(bs.drop B).length=m-B:=by rw[List.length_drop,HMM.out]
     rw[hdl]at h0l⊢;obtain⟨r,hr⟩:=qM (m-B);rw[hr]at h0l⊢;clear HX0 HW11 HGW;have hm9:m<=100:=by have:=HFEW.out.1;rw[HMM.out]at this;exact this
     by_cases hlt:k<l.length
     ·obtain⟨b1,off1,rfl,_,hcl⟩:=dR (HRS0.out.later hbw) k hlt;change wr.cell? _=some (.int .i64 ((szG l k:Nat):Int))at hcl;have hst:=eN l k hlt;have hsl:=i6 l k hlt;rw[<-HBL.out]at hsl;have hmk:=HMEM.out _ (pH l k hlt);have hgg:dD bs l k=(bs.drop B).take (szG l k+32):=by rw[hB];rfl
      have hes:erG bs l (k+1)=erG bs l k++[((gnL (dD bs l k) (szG l k+32)).length:Int)]:=rfl;obtain⟨s',hs'⟩:=qM (szG l k);rw[hs']at hcl hst hmk hsl hgg hes;rw[<-hB]at hst hsl;have hs1':=hmk.1;have hk0:(0:Int)<=(k:Int):=qO;have hk1:(k:Int)<(l.length:Int):=qO;obtain⟨b0',off0,p0,q0,rfl,_⟩:=hv0.cell 0 (by rw[hdl,hr];omega);obtain⟨uu,hu⟩:=qM (s'+32);rw[hu]at hgg hes hst hsl;have htk:=hv0.take uu (by rw[hdl,hr];omega);rw[<-hgg]at htk;have hdd:=hv0.drop uu (by rw[hdl,hr];omega);rw[List.drop_drop]at hdd;have hgl:(dD bs l k).length=uu:=by rw[hgg,List.length_take,hdl];omega
      have hmi:(s':Int)+32=(uu:Int):=qO;have hmc:(uu:Int)<=(c0:Int):=qO;have hmr:(uu:Int)<=(r:Int):=qO;have hdr:(bs.drop (B+uu)).length=r-uu:=by
       have h1:=HMM.out;rw[List.length_drop];omega
      have hd2:=hdd.le.1;rw[hdr]at hd2;obtain⟨G,hG⟩:=qM (dD bs l k);rw[hG]at htk hgl hes;have HTK:=Lh (htk.later hbw);have HGL:=Lh hgl;have HES:=Lh hes;have HST:=Lh hst;have HDR:=Lh hdr;have HDD:=Lh hdd;have HOWN:=Lh hown;have HBW:=Lh hbw;have hkk:k<=100:=by have:=HBL.out;omega
      clear hown hbw hst hsl hmk hgg hes hs' hu htk hdd hgl hdr hv0 hB hdl hr hG;go_wp2_with fail;go_loopw [24,152] (fun xv iv wr2=>Lo2 G uu wr xv iv wr2) (fun _ iv _=>uu-(intOf iv).toNat)
      case atStart=>exact⟨0,Nat.zero_le _,rfl,rfl,rfl⟩
      case round=>
       obtain⟨i,hi,rfl,rfl,rfl⟩:=hrel;by_cases hlt2:i<uu
       ·have hi0:(0:Int)<=(i:Int):=qO;have hi1:(i:Int)<(uu:Int):=qO;obtain⟨b3,off3,p3,q3,e3,_,hc3,hrow⟩:=HTK.out.cell i (by have:=HGL.out;omega);cases e3
        have hgl:=eE G i;have hgs:gnL G (i+1)=if(bi G i).length=8 then gnL G i else gnL G i++[(i:Int)]:=rfl;have hq4:=hrow.le;have hq5:=hrow.cap;simp at hq4;unfold maxLen at hq5;obtain⟨L,hL⟩:=qM ((bi G i).length);rw[hL]at hgs hc3 hq4;by_cases h8:L=8
        ·subst h8;rw[if_pos rfl]at hgs;have HY:Hid ((gnL G (i+1)).length=(gnL G i).length):=Lh (by rw[hgs]);generalize (gnL G i).length=a at*;clear hgs hrow hL;go_wp2_with fail;go_roundw
         case rel=>exact⟨i+1,qO,by go_num,by rw[HY.out],rfl⟩
         case measure=>simp[intOf];omega
        ·rw[if_neg h8]at hgs;have HY:Hid ((gnL G (i+1)).length=(gnL G i).length+1):=Lh (by rw[hgs];simp);have hq6:((L:Int) !=8)=true:=by rw[bne_iff_ne];omega
         have hq7:((L:Int)==8)=false:=beq_false_of_ne qO;generalize (gnL G i).length=a at*;clear hgs hrow hL h8;go_wp2_with fail;go_roundw
         case rel=>exact⟨i+1,qO,by go_num,by rw[HY.out];go_num,rfl⟩
         case measure=>simp[intOf];omega
       ·obtain rfl:i=uu:=qO;obtain⟨y,hy⟩:=qM ((gnL G i).length);have hes2:=HES.out;rw[hy]at hes2⊢;obtain⟨w3,hw3⟩:=qM (wr.alloc (.cells #[.int .i64 (y:Int)] 3));have HO3:Hid (w3.ownsRow W10.heap.size 3 1 u21 k (aF (erG bs l k))):=Lh (by rw[<-hw3];exact World.ownsRow.alloc HOWN.out _);have HC3:Hid (w3.cell? ⟨wr.heap.size,0,none⟩=some (.int .i64 (y:Int))):=Lh (by rw[<-hw3];exact bf wr _ _ _ rfl);have HB3':Hid (Below W10.heap.size W10 w3):=Lh (by rw[<-hw3];exact HBW.out.alloc HBW.out.size _);have HW3:=Lh hw3;have HES2:=Lh hes2;clear hy hes2 hw3;go_wp2_with (first|rw[HW3.out]|(at_builtin;refine bC rfl (.tmp 162) (.tmp 164) rfl W10.heap.size _ k (erG bs l k) rfl HO3.out _ (y:Int) rfl HC3.out qO HB3'.out.size ?_))
        intro v' w4 hv hgw;have HV4:Hid (w4.ownsRow W10.heap.size 3 1 v' (k+1) (aF (erG bs l (k+1)))):=Lh (by rw[HES2.out];exact hv);have HBX:=Lh (aw HB3'.out HO3.out hgw);clear hv hgw;by_cases hcm:c0=i
        ·have hdz:bs.drop (B+i)=[]:=List.eq_nil_of_length_eq_zero (by rw[HDR.out];omega);have HDZ:=Lh hdz;clear hdz;go_wp2_with fail;go_roundw
         case rel=>exact⟨k+1,B+i,qO,by have:=HST.out;omega,by go_num,⟨_,_,by rw[HDR.out],by rw[HDZ.out];exact RbIs.empty _ _ (by unfold maxLen;omega) qS⟩,HV4.out,HBX.out⟩
         case measure=>simp[intOf];omega
        ·go_wp2_with fail;go_roundw
         case rel=>exact⟨k+1,B+i,qO,by have:=HST.out;omega,by go_num,⟨_,_,by rw[HDR.out],HDD.out⟩,HV4.out,HBX.out⟩
         case measure=>simp[intOf];omega
     ·obtain rfl:k=l.length:=qO;obtain⟨oz,cz,rfl,hz⟩:=bD hown (by rw[dX]);have hlz2:lz=l.length:=by rw[<-HLZ.out,HZZ.out,dX]
      have hx1:=HR10.out.later hbw;rw[HZZ.out]at hx1;have hsi:=pD (erG bs l l.length) ox oz cx cz wr hx1 hz (by rw[dX];have:=HBL.out;omega) (fun j hj=>Kn bs l HSZL.out l.length j hj);rw[dX]at hsi;have HSI:=Lh hsi;have HBX:=Lh hbw;have k2:=yX;subst hlz2;clear hown hz hbw hB hv0 hdl hr hx1 hsi;go_upto_region 38 with fail
      apply wp_region_lit;iterate 3 (refine qP ?_)
      iterate 2 (refine BigFrame.wpList_want (by rfl) (fun K hK=>?_);go_simp;refine hK _ _ ?_;clear hK K)
      refine BigFrame.wpList_want (by rfl) (fun K hK=>?_);go_simp;refine HSI.out.mono ?_;rintro e W12 ⟨rfl,hdn⟩;refine hK _ _ ?_;clear hK K;have HB12:=Lh (Ks (Ks HB10.out HBX.out) hdn.below);clear hdn;iterate 2 (refine qP ?_)
      go_wp2_with fail;go_ret;exact⟨rfl,Ks HB1.out HB12.out⟩
theorem lo17_any(U:Er.ee)(A:Nat->Addr)(p:Pm15)(bs:L8)(o:Option Addr)(c:Nat)(x0:Int)(oE oC:Option Addr)(cE cC:Nat)(E C:List Int)(w:World)
  (hok:p.ok) (hB:RbIs w o bs c) (hrE:RowIs w oE (aF E) cE) (hrC:RowIs w oC (aF C) cC) (iE:∀n∈E,bG n) (iC:∀n∈C,bG n) (hV:Cds w) (hEr:Er.Errs w A):
  Calls Tryz.prog 6 #[.agg (pmA p),.slice o bs.length c,.agg #[.int .i64 x0,.slice oE E.length cE,.slice oC C.length cC]] w fun e w'=>e=.returned (.bool true)/\Below w.heap.size w w':=TU _ rfl Ko U A p bs o c x0 oE oC cE cC E C w hok hB hrE hrC iE iC hV hEr
