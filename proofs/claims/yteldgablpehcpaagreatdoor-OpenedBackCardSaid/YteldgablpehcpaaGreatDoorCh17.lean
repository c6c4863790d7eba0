/- Ch17 -/
import Derived.Test.YteldgablpehcpaaGreatDoorCg17
set_option linter.unusedVariables false
set_option linter.unusedSimpArgs false
set_option maxRecDepth 100000
set_option maxHeartbeats 8000000
namespace Go.Proofs.YteldgablpehcpaaGreatDoor
open Go.RowKit
theorem Da.ln{p:Pm15}(h:Da.aU p≠0)(k:Nat):Da.a6 p k≠0:=by
 unfold Da.a6;rw[if_neg h];exact fun e=>h ((Da.dW (Da.fO p)).1 e)
theorem Cd(ZK:Array Value)(hZK:eY.toArray=ZK)(hzk:∀w,Sem.run Tryz.prog (zeroValue 82) w=.ok (.agg ZK) w)(A:Nat->Addr)(W:World)(oK:Option Addr)(cK:Nat)(K9:BL)(N:Int)(p:Pm15)(oS:Option Addr)(cS:Nat)(S:L8)
  (hK9:RowIs W oK (bytesV K9) cK) (hS:RbIs W oS S cS) (hKl:K9.length<=100) (hF:kg S) (hN:bG N) (hok:p.ok) (hV:Cds W) (hE:E17 W A):
  Calls Tryz.prog 10 #[.slice oK K9.length cK,.int .i64 N,.agg (pmA p),.slice oS S.length cS] W fun e w'=>∃x v,e=.returned (.tuple #[x,.int .i64 ((if Da.a6 p (Da.fS K9 N p S.length)=0 then Da.lD (Da.aQ K9 N 3) S (Da.n16 p)else 0:Nat):Int),v])/\
   RbV (if Da.a6 p (Da.fS K9 N p S.length)=0 then Da.jK K9 N p S else[]) x w'/\SeV A p (Da.fS K9 N p S.length) w' v/\Below W.heap.size W w':=by
 obtain⟨OB,hOB⟩:=qM (Da.fS K9 N p S.length);rw[hOB];obtain⟨GN,hGN⟩:=qM ((if Da.a6 p OB=0 then Da.lD (Da.aQ K9 N 3) S (Da.n16 p)else 0));obtain⟨RS,hRS⟩:=qM ((if Da.a6 p OB=0 then Da.jK K9 N p S else[]));rw[hGN,hRS];have HERR:Hid (Da.a6 p OB≠0->GN=0/\RS=[]):=Lh fun h=>⟨by rw[<-hGN,if_neg h],by rw[<-hRS,if_neg h]⟩
 have HOKK:Hid (Da.a6 p OB=0->GN=Da.lD (Da.aQ K9 N 3) S (Da.n16 p)/\RS=Da.jK K9 N p S):=Lh fun h=>⟨by rw[<-hGN,if_pos h],by rw[<-hRS,if_pos h]⟩
 obtain⟨g,hg⟩:=qM W.heap.size;obtain⟨PA,hPA⟩:=qM (pmA p);obtain⟨W2,hW2⟩:=qM (W.alloc (.cells PA 24));have hb2:Below W.heap.size W W2:=by rw[<-hW2];exact aH _ _
 have hA2:Arr W2 g 24 (pmL p):=by rw[<-hW2,<-hPA,<-hg];exact World.alloc_heap_new W _
 have hP:=jL A W2 p hok (hE.later hb2).e.e15;have HPP:Hid (∀w',Below W2.heap.size W2 w'->w'.heap[g]? =some (.cells PA 24 (0,0))):=Lh fun w' hb=>by
  have:=hA2.later hb hA2.lt;unfold Arr at this;rw[show(pmL p).toArray=PA from hPA]at this;exact this
 have HPS:Hid ((Tryz.prog.info? 24).map (·.size)=some PA.size):=Lh (by rw[<-hPA];exact aM);have HSE:Hid (∀w',Below W2.heap.size W2 w'->w'.cell? ⟨g,1,none⟩=some (.int .i64 p.se)):=Lh fun w' hb=>by rw[(hA2.later hb hA2.lt).cell];rfl
 have HTG:Hid (∀(w':World)(n:Nat),Below W2.heap.size W2 w'->Da.fH K9 N p=0->S.length=n->Da.n16 p=n->0<n->Calls Tryz.prog 30 #[.slice oK K9.length cK,.int .i64 N,.agg PA,.slice oS n cS] w' fun e w2=>∃g ys,e=.returned (.tuple #[.slice (some ⟨g,0,none⟩) n n,.int .i64 ((Da.lD (Da.aQ K9 N 3) S n:Nat):Int),.nilIface])/\Arr w2 g 22 ys/\Els w2 (Da.mo K9 N p S) ys/\Below w'.heap.size w' w2):=Lh fun w' n hb hr h1 h2 h3=>by
  rw[<-hPA];exact zx A w' K9 N p oK cK oS cS S n (hK9.later (Ks hb2 hb)) (hS.later (Ks hb2 hb)) hKl hF hN hok (hV.later (Ks hb2 hb)) (hE.later (Ks hb2 hb)) hr h1 h2 h3
 rw[hPA]at hP⊢;obtain⟨PT,hPT⟩:∃PT:Int,(if Da.aU p=0 then(Da.ae p.sz:Int)else 0)=PT:=⟨_,rfl⟩;rw[hPT]at hP;obtain⟨lk,hlk⟩:=qM K9.length;obtain⟨m,hm⟩:=qM S.length;have HLA:Hid (∀w',Below W2.heap.size W2 w'->Calls Tryz.prog 29 #[.slice oK lk cK,.int .i64 N] w' fun e w2=>∃xs:List Value,e=.returned (.tuple #[.agg xs.toArray,eD A (Da.dN (Da.aj K9.length) (Da.inR N))])/\Els w2 (Da.lR (Da.dN (Da.aj K9.length) (Da.inR N)) (Da.dp K9 N)) xs/\Below w'.heap.size w' w2):=Lh fun w' hb=>by
  rw[<-hlk];exact lS K9 oK cK N A w' (hK9.later (Ks hb2 hb)) (hV.later (Ks hb2 hb)) (hE.later (Ks hb2 hb)).e.e9 qO
 have hs1:=hS.le;have hs2:=hs1.2;unfold maxLen at hs2;have hm1:m<=100:=by have:=hF.1;omega
 rw[hm]at hs1;rw[hlk]at HTG⊢;rw[hm]at HTG hOB⊢;obtain⟨k,hk⟩:=qM (Da.dN (Da.aj K9.length) (Da.inR N));rw[hk]at HLA;have HP:=Lh hP;have HPT:=Lh hPT;have HK:=Lh hk;have HG:=Lh hg;have HW2:=Lh hW2;have HB2:=Lh hb2;have HV:=Lh hV;have HE:=Lh hE;have HZK:=Lh hZK;have HOB:=Lh hOB;have HM1:=Lh hm1;have HMM:=Lh hm;have hnn:=dO;clear hP hPT hk hg hW2 hb2 hA2 hV hE hZK hK9 hKl hlk hPA hok hN hOB hGN hRS hF hm1 hm;go_enter Tryz.func10,Tryz.ntmps10
 go_upto_region 1 with fail
 rw[HW2.out,HG.out];apply wp_region_lit;refine wpList_load_row rfl 24 (.tmp 6) rfl g rfl 24 PA (0,0) _ (HPP.out W2 qB) Tryz.underlying24 rfl HPS.out ?_;refine wpList_plain rfl (fun K hK=>?_);go_simp;refine HP.out.mono ?_;rintro e W3 ⟨v,rfl,hv,hb3⟩;refine hK _ _ ?_;clear hK K HP;have HB3:=Lh hb3;clear hb3;iterate 5 (refine qP ?_)
 rcases hv with ⟨h0,rfl⟩|⟨h0,b,rfl,hw⟩
 rotate_left
 ·have HWR:=Lh (show WrV A p W3 (jQ b) from .inr ⟨h0,b,rfl,hw⟩);have HER:=Lh (HERR.out (Da.ln h0 OB));have H0:=Lh h0;have hq:=fU b;unfold jQ at hq⊢;clear h0 hw;go_wp2_with fail;refine bodyPost_ret (results_tmp3 rfl _ _ _) rfl ?_;exact⟨.slice none 0 0,jQ b,by rw[HER.out.1];rfl,by rw[HER.out.2];exact⟨none,0,rfl,RbIs.empty none 0 (Nat.zero_le _) (fun _=>rfl)⟩,.inl ⟨H0.out,HWR.out⟩,Ks HB2.out HB3.out⟩
 have hpt:PT=(Da.ae p.sz:Int):=by rw[<-HPT.out,if_pos h0]
 have H0:=Lh h0;have HTT:=Lh hpt;clear h0 hpt;go_upto_region 4 with fail
 apply wp_region_lit;iterate 2 (refine qP ?_)
 refine wpList_plain rfl (fun K hK=>?_);go_simp;refine(HLA.out W3 HB3.out).mono ?_;rintro e V2 ⟨xs,rfl,hx,hbv⟩;refine hK _ _ ?_;clear hK K HLA;obtain⟨gk,hgk⟩:=qM V2.heap.size;obtain⟨FA,hFA⟩:∃FA:Array Value,xs.toArray=FA:=⟨_,rfl⟩;have h5:xs.length=5:=hx.len.trans (Da.ll _ _ _);have HFS:Hid ((Tryz.prog.info? 82).map (·.size)=some FA.size):=Lh (by rw[kT,<-hFA];simp[h5]);have HFZ:Hid (ZK.size=FA.size):=Lh (by rw[<-HZK.out,<-hFA];simp[h5,eY]);have HFO:Hid (FA.all (·.oneCell')=true):=Lh (by rw[<-hFA];exact km hx);obtain⟨V3,hV3⟩:=qM (V2.alloc (.cells ZK 82));have hz3:V3.heap[gk]? =some (.cells ZK 82 (0,0)):=by rw[<-hV3,<-hgk];exact World.alloc_heap_new V2 _
 obtain⟨V4,hV4⟩:=qM (V3.setRow gk FA);have hA4:Arr V4 gk 82 xs:=by rw[<-hV4];unfold Arr;rw[hFA];exact setRow_heap _ _ _ _ _ _ hz3
 have hb4:Below V2.heap.size V2 V4:=by rw[<-hV4,<-hV3];exact(aH _ _).trans (aA (Nat.le_of_eq hgk))
 have HX4:=Lh (hx.later hb4);have HA4:=Lh hA4;have HZ3:=Lh hz3;have HV3:=Lh hV3;have HV4:=Lh hV4;have HGK:=Lh hgk;rw[hFA];have HB4:=Lh (Ks (Ks HB3.out hbv) hb4);clear hx hbv hgk hFA h5 hV3 hz3 hV4 hA4 hb4;iterate 4 (refine qP ?_)
 rw[HV3.out,HGK.out];refine wpList_store_rowTo rfl 82 (.tmp 13) (.tmp 29) rfl rfl gk FA rfl rfl 82 ZK HZ3.out HFS.out HFZ.out HFO.out ?_;rw[HV4.out];clear HV3 HV4 HZ3;refine qP ?_;by_cases hk0:k=0
 rotate_left
 ·obtain⟨a1,ha1⟩:=ii A k hk0;have hob:OB=k:=by rw[<-HOB.out];unfold Da.fS;rw[HK.out,if_neg hk0]
  have HER:=Lh (HERR.out (by unfold Da.a6;rw[if_pos H0.out,hob];exact hk0));have HSV:Hid (∀w',SeV A p OB w' (eD A k)):=Lh fun w'=>.inr ⟨H0.out,by rw[hob]⟩
  rw[ha1]at HSV⊢;clear ha1 hk0 hob;go_wp2_with fail;refine bodyPost_ret (results_tmp3 rfl _ _ _) rfl ?_;exact⟨.slice none 0 0,_,by rw[HER.out.1];rfl,by rw[HER.out.2];exact⟨none,0,rfl,RbIs.empty none 0 (Nat.zero_le _) (fun _=>rfl)⟩,HSV.out _,Ks HB2.out HB4.out⟩
 subst hk0;rw[fN];have hR:=Da.cN H0.out;have hn:=Da.iy hR;have hni:=Da.pO hR;obtain⟨n,hne⟩:=qM (Da.n16 p);rw[hne]at hn hni;have hws:IntKind.i64.wrap (PT+p.se)=(n:Int):=by rw[IntKind.wrap_i64,HTT.out,hni];omega
 have hse:=HSE.out V4 HB4.out;have HNE:=Lh hne;have HN:=Lh hn;clear hR hni hne hn;by_cases hmn:m=n
 rotate_left
 ·have hob:OB=4:=by rw[<-HOB.out];unfold Da.fS;rw[HK.out,if_pos rfl,HNE.out,if_neg hmn]
  have HER:=Lh (HERR.out (by unfold Da.a6;rw[if_pos H0.out,hob];omega));have HSV:Hid (∀w',SeV A p OB w' (.iface 302 (.pointer (some (A 3))))):=Lh fun w'=>.inr ⟨H0.out,by rw[hob];rfl⟩
  have hq1:((m:Int) !=(n:Int))=true:=by rw[bne_iff_ne];omega
  have hq2:((m:Int)==(n:Int))=false:=beq_false_of_ne qO;have hc3:=(HE.out.later (Ks HB2.out HB4.out)).c3;clear hob hmn;go_wp2_with fail;go_region
  all_goals go_wp2_with fail
  all_goals refine bodyPost_ret (results_tmp3 rfl _ _ _) rfl ?_
  all_goals exact⟨.slice none 0 0,_,by rw[HER.out.1];rfl,by rw[HER.out.2];exact⟨none,0,rfl,RbIs.empty none 0 (Nat.zero_le _) (fun _=>rfl)⟩,HSV.out _,Ks HB2.out (Ks HB4.out (Kit.dn' _ _))⟩
 subst hmn;have hob:OB=0:=by rw[<-HOB.out];unfold Da.fS;rw[HK.out,if_pos rfl,HNE.out,if_pos rfl]
 have HEO:=Lh (HOKK.out (by unfold Da.a6;rw[if_pos H0.out,hob]));have HSV:Hid (∀w',SeV A p OB w' .nilIface):=Lh fun w'=>.inr ⟨H0.out,by rw[hob];rfl⟩
 have htg:=HTG.out V4 m HB4.out (by unfold Da.fH;rw[if_pos H0.out,HK.out]) rfl HNE.out (by have:=HN.out;omega);have HTG2:=Lh htg;have HPW:=Lh (HPP.out V4 HB4.out);clear hob htg HTG;have hq3:((m:Int) !=(m:Int))=false:=qS;go_upto_region 9 with fail
 apply wp_region_lit;iterate 2 (refine qP ?_)
 refine wpList_load_row rfl 24 (.tmp 6) rfl g rfl 24 PA (0,0) _ HPW.out Tryz.underlying24 rfl HPS.out ?_;refine qP ?_;refine wpList_plain rfl (fun K hK=>?_);go_simp;refine HTG2.out.mono ?_;rintro e V5 ⟨g3,ys,rfl,hA3,hE3,hb5⟩;refine hK _ _ ?_;clear hK K HTG2 hse hws hq3;obtain⟨T,hT⟩:=qM (Da.ae p.sz);have hTm:T<=m:=by have:=HNE.out;unfold Da.n16 at this;omega
 have hrb:=wV hA3 hE3 (by unfold Da.mo;rw[Da.iO,HNE.out]) (by have:=HM1.out;omega);have htk:=hrb.take T (by unfold Da.mo;rw[Da.iO,HNE.out];exact hTm);have HB5:=Lh (Ks HB4.out hb5);have hx5:Els V5 (Da.dp K9 N) xs:=(show Els V4 (Da.dp K9 N) xs from HX4.out).later hb5;obtain⟨x0,hx0,hr0⟩:=hx5.key16 0 qO;have hk0l:=Da.bP K9 N 0 qO;obtain⟨o0,c0,rfl,hr0⟩:=hr0;have hA5:=HA4.out.later hb5 HA4.out.lt;rw[hk0l]at hx0;obtain⟨CC,hC⟩:∃CC:World->Prop,(fun v=>Below V5.heap.size V5 v)=CC:=⟨_,rfl⟩;have HCm:Hid (∀v,CC v->Below V5.heap.size V5 v):=Lh fun v hv=>by rw[<-hC]at hv;exact hv
 have HCi:Hid (∀v,Below V5.heap.size V5 v->CC v):=Lh fun v hv=>by rw[<-hC];exact hv
 have hCC:CC {V5 with drawn:=V5.drawn+1}:=HCi.out _ (Kit.dn' V5 1);have HC0:Hid (∀v,CC v->v.cell? ⟨gk,0,none⟩=some (.slice o0 32 c0)):=Lh fun v hv=>by rw[(hA5.later (HCm.out v hv) hA5.lt).cell];exact hx0
 have HUM:Hid (∀v,CC v->Calls Tryz.prog 31 #[.slice o0 32 c0,.slice (some ⟨g3,0,none⟩) T m] v fun e w'=>∃x,e=.returned (.tuple #[.slice (some ⟨x,0,none⟩) T T,.nilIface])/\RbIs w' (some ⟨x,0,none⟩) (Da.jK K9 N p S) T/\Below v.heap.size v w'):=Lh fun v hv=>by
  have hvb:=HCm.out v hv;have:=wX A (Da.aQ K9 N 0) o0 c0 ((Da.mo K9 N p S).take T) T m (some ⟨g3,0,none⟩) v (hr0.later hvb) (htk.later hvb) (by unfold Da.mo;rw[List.length_take,Da.iO,HNE.out];omega) (by have:=HM1.out;omega) (by rw[hk0l];omega) (HV.out.later (Ks HB2.out (Ks HB5.out hvb))) (HE.out.later (Ks HB2.out (Ks HB5.out hvb))).e;rw[hk0l]at this;refine this.mono ?_;rintro e w' ⟨gx,zs,rfl,hAz,hEz,hbz⟩;refine⟨gx,rfl,?_,hbz⟩;have hrz:=wV hAz hEz (n:=T) (by unfold Da.mo;rw[Da.tA,List.length_take,Da.iO,HNE.out];omega) (by have:=HM1.out;omega);unfold Da.jK;rw[hT];exact hrz
 have HTT2:Hid (PT=(T:Int)):=Lh (by rw[HTT.out,hT]);have HLB:Hid ((Da.jK K9 N p S).length=T):=Lh (by rw[Da.oM,hT]);obtain rfl:=HTT2.out;have htm2:(T:Int)<=(m:Int):=qO;have htm0:(0:Int)<=(T:Int):=qO;have hmb:m<=100:=HM1.out;clear hA3 hE3 hb5 hT hrb htk hx5 hx0 hr0 hk0l hA5 hC HTT;go_upto_region 12 with fail
 refine wp_region_held (S:=CC) qK ?_;refine aI (i:=0) (x:=.pointer (some ⟨gk,0,none⟩)) rfl rfl qK qK qK qI (Or.inl ⟨qK,fun w hw=>qG⟩) hCC ?_;simp only[qA,qZ,qC];refine aI (i:=1) (x:=.slice o0 32 c0) rfl rfl qK qK qK qI (Or.inl ⟨qK,fun w hw=>by have hc:=HC0.out w hw;(go_simp<;>with_reducible rfl)⟩) hCC ?_;simp only[qA,qZ,qC];refine aI (i:=2) (x:=.slice (some ⟨g3,0,none⟩) m m) rfl rfl qK qK qK qI (Or.inl ⟨qK,fun w hw=>qG⟩) hCC ?_;simp only[qA,qZ,qC];refine aI (i:=3) (x:=.int .i64 (T:Int)) rfl rfl qK qK qK qI (Or.inl ⟨qK,fun w hw=>qG⟩) hCC ?_;simp only[qA,qZ,qC];refine aI (i:=4) (x:=.slice (some ⟨g3,0,none⟩) T m) rfl rfl qK qK qK qI (Or.inl ⟨qK,fun w hw=>qG⟩) hCC ?_;simp only[qA,qZ,qC];refine dF (i:=5) qK rfl qK (fun K hK=>?_);go_simp;refine(HUM.out _ hCC).mono ?_;rintro e Y1 ⟨gx,rfl,hrz,hbz⟩;have hC1:=HCi.out _ (Ks (HCm.out _ hCC) hbz);refine hK _ _ hC1 ?_;clear hK K HUM;refine aI (i:=6) (x:=.tuple #[.slice (some ⟨gx,0,none⟩) T T,.nilIface]) rfl rfl qK qK qK qI (Or.inl ⟨qK,fun w hw=>qG⟩) hC1 ?_;simp only[qA,qZ,qC];refine aI (i:=7) (x:=.slice (some ⟨gx,0,none⟩) T T) rfl rfl qK qK qK qI (Or.inl ⟨qK,fun w hw=>qG⟩) hC1 ?_;simp only[qA,qZ,qC];refine aI (i:=8) (x:=.nilIface) rfl rfl qK qK qK qI (Or.inl ⟨qK,fun w hw=>qG⟩) hC1 ?_;simp only[qA,qZ,qC];refine aI (i:=9) (x:=.slice (some ⟨gx,0,none⟩) T T) rfl rfl qK qK qK qI (Or.inl ⟨qK,fun w hw=>qG⟩) hC1 ?_;simp only[qA,qZ,qC];refine aI (i:=10) (x:=.nilIface) rfl rfl qK qK qK qI (Or.inl ⟨qK,fun w hw=>qG⟩) hC1 ?_;simp only[qA,qZ,qC];refine wpAnyH_done qK ?_ _;have HB6:=Lh (Ks HB2.out (Ks HB5.out (HCm.out _ hC1)));have HRZ:=Lh hrz;clear hCC hC1 hrz hbz;go_wp2_with fail;refine bodyPost_ret (results_tmp3 rfl _ _ _) rfl ?_;exact⟨_,_,by rw[HEO.out.1,HNE.out];rfl,by rw[HEO.out.2];exact⟨_,_,by rw[HLB.out];rfl,HRZ.out⟩,HSV.out _,HB6.out⟩
theorem zy(A:Nat->Addr)(W:World)(oK:Option Addr)(cK:Nat)(K9:BL)(N:Int)(p:Pm15)(oS:Option Addr)(cS:Nat)(S:L8)
  (hK9:RowIs W oK (bytesV K9) cK) (hS:RbIs W oS S cS) (hKl:K9.length<=100) (hF:kg S) (hN:bG N) (hok:p.ok) (hV:Cds W) (hE:E17 W A):
  Calls Tryz.prog 10 #[.slice oK K9.length cK,.int .i64 N,.agg (pmA p),.slice oS S.length cS] W fun e w'=>∃x v,e=.returned (.tuple #[x,.int .i64 ((if Da.a6 p (Da.fS K9 N p S.length)=0 then Da.lD (Da.aQ K9 N 3) S (Da.n16 p)else 0:Nat):Int),v])/\
   RbV (if Da.a6 p (Da.fS K9 N p S.length)=0 then Da.jK K9 N p S else[]) x w'/\SeV A p (Da.fS K9 N p S.length) w' v/\Below W.heap.size W w':=Cd _ rfl rH A W oK cK K9 N p oS cS S hK9 hS hKl hF hN hok hV hE
